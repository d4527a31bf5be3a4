"""What letters save, by their feet: a product of what the two sides of a box tell, each for itself."""

from lacekeys.boxes import count_odd_multiples, count_spans


class Side:
    """What the x or the y of a box tell of savings, by digits.

    borders[i]: how many odd multiples of 2 ** i lie behind the first number. spans[i]: how many multiples of 2 ** i
    begin a stretch of 2 ** i numbers. Both are sums where there are several places, and multiples where there is a
    weight.
    """

    def __init__(self, borders, spans):
        self.borders = borders
        self.spans = spans


def side_of(bits, low, high):
    """Return the Side of the numbers from low to high, of all numbers of so many bits."""
    borders = [count_odd_multiples(digit, low + 1, high) for digit in range(bits)]
    return Side(borders, [count_spans(digit, low, high) for digit in range(bits + 1)])


def sides_of(x_bits, y_bits, box, weight):
    """Return the tuple of the two Sides of a box with a weight."""
    x1, y1, x2, y2 = box
    x_side = side_of(x_bits, x1, x2)
    weighed = Side([weight * many for many in x_side.borders], [weight * many for many in x_side.spans])
    return (weighed, side_of(y_bits, y1, y2))


def saved_by_x(sides):
    """Return the list, by i, of the lists, by j, of what a letter x with the foot (i, j) saves in all these boxes."""
    return _add_products([x_side.borders for x_side, y_side in sides], [y_side.spans for x_side, y_side in sides])


def saved_by_y(sides):
    """Return the list, by i, of the lists, by j, of what a letter y with the foot (i, j) saves in all these boxes."""
    return _add_products([x_side.spans for x_side, y_side in sides], [y_side.borders for x_side, y_side in sides])


def blocks_within(sides):
    """Return the list, by i, of the lists, by j, of how many blocks of 2 ** i by 2 ** j cells these boxes have."""
    return _add_products([x_side.spans for x_side, y_side in sides], [y_side.spans for x_side, y_side in sides])


def _add_products(ones, twos):
    """Return the list, by i, of the lists, by j, of the sums of one[i] * two[j] over the lists of ones and twos."""
    columns = list(zip(*twos))
    return [[sum([a * b for a, b in zip(row, column)]) for column in columns] for row in zip(*ones)]
