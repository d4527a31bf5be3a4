"""The cells of a box by ascending keys: their ranks, and the ones next to a key."""

from lacekeys.boxes import area_of, is_in_box
from lacekeys.checks import check_index, check_key
from lacekeys.halves import halve
from lacekeys.layouts import check_layout_and_box
from lacekeys.words import feet


def rank(layout, box, key):
    """Return how many cells of a box have keys that are less."""
    check_layout_and_box(layout, box)
    check_key(key, layout.x_bits, layout.y_bits)
    part, less = box, 0
    for letter, i, j in feet(layout.word):
        low, high = halve(letter, i, j, part)
        if (key >> (i + j)) & 1:
            less += _area_of_part(low)
            part = high
        else:
            part = low
        if part is None:
            break
    return less


def cell_at(layout, box, index):
    """Return the cell of a box with an index."""
    check_layout_and_box(layout, box)
    check_index(index, area_of(box))
    part, key, left = box, 0, index
    for letter, i, j in feet(layout.word):
        low, high = halve(letter, i, j, part)
        many = _area_of_part(low)
        if left < many:
            part = low
        else:
            part = high
            left -= many
            key += 1 << (i + j)
    return layout.cell(key)


def next_cell(layout, box, key):
    """Return the cell of a box with the least key that is at least the told one, or None."""
    index = rank(layout, box, key)
    if index == area_of(box):
        return None
    return cell_at(layout, box, index)


def last_cell(layout, box, key):
    """Return the cell of a box with the greatest key that is at most the told one, or None."""
    index = rank(layout, box, key)
    cell = layout.cell(key)
    if is_in_box(cell, box):
        return cell
    if index == 0:
        return None
    return cell_at(layout, box, index - 1)


def _area_of_part(part):
    return 0 if part is None else area_of(part)
