"""Holds calls against what the document says of wrong inputs."""

from itertools import combinations, product


def hold_errors(test, call, arguments, wrong):
    """Hold a call with wrong arguments against the errors that the document lists.

    wrong has for each argument a tuple of its error and a list of wrong values, or a list of such tuples. An error is
    told by its class, or by one of its kind with the same fields. Each value is tried alone, beside right arguments,
    and some of them together, where the first wrong argument tells the error.
    """
    test.assertEqual(len(arguments), len(wrong))
    pairs = [pairs_of(told) for told in wrong]
    for at, told in enumerate(pairs):
        for error, value in told:
            hold_error(test, call, arguments[:at] + (value,) + arguments[at + 1:], error)
    for many in range(2, len(arguments) + 1):
        for places in combinations(range(len(arguments)), many):
            for chosen in product(*[some_of(pairs[at]) for at in places]):
                told = list(arguments)
                for at, (_, value) in zip(places, chosen):
                    told[at] = value
                hold_error(test, call, tuple(told), chosen[0][0])


def pairs_of(told):
    """Return the tuples (error, value) of what is told of an argument."""
    groups = told if isinstance(told, list) else [told]
    return [(error, value) for error, values in groups for value in values]


def some_of(values):
    """Return some of the values, of those at the begin, in the middle and at the end."""
    return [values[0], values[len(values) // 2], values[-1]]


def hold_error(test, call, arguments, error):
    """Hold one call against the error that it must raise, and none that derives from it."""
    with test.subTest(call.__name__, arguments=arguments):
        with test.assertRaises(error if isinstance(error, type) else type(error)) as caught:
            call(*arguments)
        if isinstance(error, type):
            test.assertIs(type(caught.exception), error)
        else:
            test.assertIs(type(caught.exception), type(error))
            test.assertEqual(vars(caught.exception), vars(error))
