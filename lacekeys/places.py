"""The runs of a box of a told size at all places of the grid: their sum and mean, the fewest and the most of them."""

from math import gcd

from lacekeys.checks import check_bits, check_sizes
from lacekeys.layouts import check_layout
from lacekeys.runs import saved_by
from lacekeys.savings import Side, saved_by_x, saved_by_y
from lacekeys.ways import best_word
from lacekeys.words import feet


class Tail:
    """The last digits of places that go on alike, and of these only those at which the letters gain most.

    gain: what the letters save there, or what they save with a minus; many: how many such digits there are; x, y and
    least_key: those of them with the least key.
    """

    def __init__(self, gain, many, least_key, x, y):
        self.gain = gain
        self.many = many
        self.least_key = least_key
        self.x = x
        self.y = y


def total_runs(layout, width, height):
    """Return the sum of the runs of a box of this size at all places."""
    _check_layout_and_sizes(layout, width, height)
    x_side, y_side = _side_at_places(layout.x_bits, width), _side_at_places(layout.y_bits, height)
    total = _area_at_places(layout.x_bits, layout.y_bits, width, height)
    for letter, i, j in feet(layout.word):
        if letter == "x":
            total -= x_side.borders[i] * y_side.spans[j]
        else:
            total -= x_side.spans[i] * y_side.borders[j]
    return total


def mean_runs(layout, width, height):
    """Return the sum of the runs at all places divided by the number of places, as a tuple without common divisor."""
    total = total_runs(layout, width, height)
    places = _count_places(layout.x_bits, width) * _count_places(layout.y_bits, height)
    common = gcd(total, places)
    return (total // common, places // common)


def fewest_runs(layout, width, height):
    """Return the tuple (runs, how many, place): the least number of runs, at how many places, the one of least key."""
    _check_layout_and_sizes(layout, width, height)
    tail = _find_tail(layout, width, height, 1)
    return (width * height - tail.gain, tail.many, (tail.x, tail.y))


def most_runs(layout, width, height):
    """Return the tuple (runs, how many, place): the greatest number of runs, as fewest_runs tells the least one."""
    _check_layout_and_sizes(layout, width, height)
    tail = _find_tail(layout, width, height, -1)
    return (width * height + tail.gain, tail.many, (tail.x, tail.y))


def best_anywhere(x_bits, y_bits, width, height):
    """Return the tuple (runs, how many, word): the least total_runs, how many words have it, the first of these."""
    check_bits(x_bits, y_bits)
    check_sizes(width, height, x_bits, y_bits)
    sides = [(_side_at_places(x_bits, width), _side_at_places(y_bits, height))]
    saved, many, word = best_word(x_bits, y_bits, saved_by_x(sides), saved_by_y(sides))
    return (_area_at_places(x_bits, y_bits, width, height) - saved, many, word)


def _check_layout_and_sizes(layout, width, height):
    check_layout(layout)
    check_sizes(width, height, layout.x_bits, layout.y_bits)


def _count_places(bits, size):
    """Return how many places a stretch of a size has among the numbers of so many bits."""
    return (1 << bits) - size + 1


def _area_at_places(x_bits, y_bits, width, height):
    return width * height * _count_places(x_bits, width) * _count_places(y_bits, height)


def _side_at_places(bits, size):
    """Return the Side of a stretch of a size, summed over all its places among the numbers of so many bits."""
    multiples = [_sum_of_multiples(digit, bits, size) for digit in range(bits + 1)]
    borders = [many - even for many, even in zip(multiples, multiples[1:])]
    return Side(borders, [_sum_of_spans(digit, bits, size) for digit in range(bits + 1)])


def _sum_of_multiples(digit, bits, size):
    """Return the sum, over all places, of how many multiples of 2 ** digit lie behind the first number."""
    places = _count_places(bits, size)
    return _sum_shifted(digit, size - 1, size - 1 + places) - _sum_shifted(digit, 0, places)


def _sum_of_spans(digit, bits, size):
    """Return the sum, over all places, of how many multiples of 2 ** digit begin a stretch of 2 ** digit numbers."""
    step = 1 << digit
    if size < step:
        return 0
    places = _count_places(bits, size)
    return _sum_shifted(digit, size, size + places) - _sum_shifted(digit, step - 1, step - 1 + places)


def _sum_shifted(digit, low, end):
    """Return the sum of number >> digit over the numbers from low on that are less than end."""
    return _sum_shifted_below(digit, end) - _sum_shifted_below(digit, low)


def _sum_shifted_below(digit, end):
    whole = end >> digit
    left = end - (whole << digit)
    # Each number below whole is there 2 ** digit times, whole itself as often as is left.
    return ((whole * (whole - 1) // 2) << digit) + whole * left


def _find_tail(layout, width, height, sign):
    """Return the Tail of all digits of the places at which the letters save most, or least if the sign is -1."""
    tails = [Tail(0, 1, 0, 0, 0)]
    for letter, i, j in reversed(feet(layout.word)):
        found = {}
        for tail in tails:
            for longer in _lengthened(letter, i, j, tail, width, height, sign):
                kind = _kind_of(longer, letter, i, j, width, height)
                found[kind] = _better_of(found[kind], longer) if kind in found else longer
        tails = list(found.values())
    best = None
    for tail in tails:
        # A kind of Tails is within the grid throughout, or not at all.
        if tail.x + width <= (1 << layout.x_bits) and tail.y + height <= (1 << layout.y_bits):
            best = tail if best is None else _better_of(best, tail)
    return best


def _lengthened(letter, i, j, tail, width, height, sign):
    """Return the two Tails that a letter with the foot (i, j) makes of one, by its digits 0 and 1."""
    found = []
    for digit in (0, 1):
        x, y = tail.x, tail.y
        if letter == "x":
            x += digit << i
        else:
            y += digit << j
        # Digits in front would shift the box by what changes nothing for this letter.
        gain = sign * saved_by(letter, i, j, (x, y, x + width - 1, y + height - 1))
        found.append(Tail(tail.gain + gain, tail.many, tail.least_key + (digit << (i + j)), x, y))
    return found


def _kind_of(tail, letter, i, j, width, height):
    """Return a tuple that is the same for Tails at which all letters in front save the same."""
    x_digit, y_digit = (i + 1, j) if letter == "x" else (i, j + 1)
    return _carries(x_digit, tail.x, width) + _carries(y_digit, tail.y, height)


def _carries(digit, low, size):
    """Return what the last digits of a number tell of borders and spans at the digits in front.

    Borders are counted from low + 1 to low + size - 1, spans from low to low + size - 1; the multiples of 2 ** digit,
    or of a greater power, that are up to a number hang on that number without its last digits.
    """
    return ((low - 1) >> digit, (low + size - 1) >> digit, (low + size) >> digit)


def _better_of(one, two):
    """Return the Tail of those of two Tails at which the letters gain most."""
    if one.gain != two.gain:
        return one if one.gain > two.gain else two
    first = one if one.least_key < two.least_key else two
    return Tail(one.gain, one.many + two.many, first.least_key, first.x, first.y)
