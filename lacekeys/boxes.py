"""Boxes of cells: their area, their cells, and the stretches of numbers that lie within their sides."""


def area_of(box):
    """Return the number of cells of a box."""
    x1, y1, x2, y2 = box
    return (x2 - x1 + 1) * (y2 - y1 + 1)


def is_in_box(cell, box):
    """Tell whether a cell of the grid is in a box."""
    x, y = cell
    x1, y1, x2, y2 = box
    return x1 <= x <= x2 and y1 <= y <= y2


def count_multiples(digit, low, high):
    """Return how many multiples of 2 ** digit there are from low to high."""
    # A stretch longer than the side makes high less than low, and the difference could be below 0.
    if high < low:
        return 0
    return (high >> digit) - ((low - 1) >> digit)


def count_spans(digit, low, high):
    """Return how many multiples of 2 ** digit begin a stretch of 2 ** digit numbers from low to high."""
    return count_multiples(digit, low, high - (1 << digit) + 1)
