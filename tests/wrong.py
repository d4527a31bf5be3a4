"""Holds calls against what the document says of wrong inputs."""

from itertools import combinations, product


def hold_errors(test, call, arguments, wrong):
    """Hold a call with wrong arguments against the errors that the document lists.

    wrong has for each argument a tuple of its error and a list of wrong values. Each of them is tried alone, beside
    right arguments, and some of them together, where the first wrong argument tells the error.
    """
    test.assertEqual(len(arguments), len(wrong))
    for at, (error, values) in enumerate(wrong):
        for value in values:
            hold_error(test, call, arguments[:at] + (value,) + arguments[at + 1:], error)
    for many in range(2, len(arguments) + 1):
        for places in combinations(range(len(arguments)), many):
            for values in product(*[some_of(wrong[at][1]) for at in places]):
                told = list(arguments)
                for at, value in zip(places, values):
                    told[at] = value
                hold_error(test, call, tuple(told), wrong[places[0]][0])


def some_of(values):
    """Return some of the values, of those at the begin, in the middle and at the end."""
    return [values[0], values[len(values) // 2], values[-1]]


def hold_error(test, call, arguments, error):
    """Hold one call against the error that it must raise, and none that derives from it."""
    with test.subTest(call.__name__, arguments=arguments):
        with test.assertRaises(error) as caught:
            call(*arguments)
        test.assertIs(type(caught.exception), error)
