"""Layouts and cells side by side: a box that tells two layouts apart, and the words that put one cell ahead."""

from math import comb

from lacekeys.checks import check_bits, check_cell
from lacekeys.layouts import check_grid, check_layout
from lacekeys.words import feet


def parting_box(layout, second):
    """Return a box that is one run by the one layout and two by the other one, or None if their words are the same."""
    check_layout(layout)
    check_layout(second)
    check_grid(second, layout.x_bits, layout.y_bits)
    for (letter, i, j), other in reversed(list(zip(feet(layout.word), second.word))):
        if letter != other:
            return (0, 0, (1 << (i + 1)) - 1, (1 << j) - 1)
    return None


def count_ahead(x_bits, y_bits, cell, other):
    """Return in how many words, with so many letters, the key of a cell is less than that of another one."""
    check_bits(x_bits, y_bits)
    check_cell(cell, x_bits, y_bits)
    check_cell(other, x_bits, y_bits)
    x1, y1 = cell
    x2, y2 = other
    if x1 >= x2 and y1 >= y2:
        return 0
    words = comb(x_bits + y_bits, x_bits)
    if x1 <= x2 and y1 <= y2:
        return words
    # The first letters at which x, or y, differ decide: that of them which is ahead in the word.
    x_ahead = _count_x_ahead(x_bits, y_bits, x_bits - (x1 ^ x2).bit_length(), y_bits - (y1 ^ y2).bit_length())
    return x_ahead if x1 < x2 else words - x_ahead


def _count_x_ahead(x_bits, y_bits, x_place, y_place):
    """Return in how many words the letter x with a place, of all letters x, is ahead of such a letter y."""
    # Of the letters y, so many that the told one is not among them are ahead of the letter x.
    return sum([
        comb(x_place + many, many) * comb(x_bits - 1 - x_place + y_bits - many, y_bits - many)
        for many in range(y_place + 1)
    ])
