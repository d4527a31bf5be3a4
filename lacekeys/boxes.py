"""Boxes of cells: their area, their cells, and the stretches of numbers that lie within their sides."""


def area_of(box):
    """Return the number of cells of a box."""
    x1, y1, x2, y2 = box
    return (x2 - x1 + 1) * (y2 - y1 + 1)


def is_in_box(cell, box):
    """Tell whether a cell of the grid is in a box."""
    x, y = cell
    x1, y1, x2, y2 = box
    return x1 <= x <= x2 and y1 <= y <= y2


def common_box(one, two):
    """Return the box of the cells that two boxes share, or None."""
    x1, y1, x2, y2 = one
    x3, y3, x4, y4 = two
    common = (max(x1, x3), max(y1, y3), min(x2, x4), min(y2, y4))
    return common if common[0] <= common[2] and common[1] <= common[3] else None


def count_multiples(digit, low, high):
    """Return how many multiples of 2 ** digit there are from low to high."""
    # A stretch longer than the side makes high less than low, and the difference could be below 0.
    if high < low:
        return 0
    return (high >> digit) - ((low - 1) >> digit)


def count_odd_multiples(digit, low, high):
    """Return how many odd multiples of 2 ** digit there are from low to high."""
    return count_multiples(digit, low, high) - count_multiples(digit + 1, low, high)


def count_spans(digit, low, high):
    """Return how many multiples of 2 ** digit begin a stretch of 2 ** digit numbers from low to high."""
    return count_multiples(digit, low, high - (1 << digit) + 1)


def count_blocks_met(i, j, box):
    """Return how many of all blocks of 2 ** i by 2 ** j cells have a cell of a box."""
    x1, y1, x2, y2 = box
    return ((x2 >> i) - (x1 >> i) + 1) * ((y2 >> j) - (y1 >> j) + 1)
