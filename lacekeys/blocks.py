"""The blocks of a box, and the pages that have a cell of it."""

from lacekeys.boxes import count_blocks_met, count_spans, is_in_box
from lacekeys.checks import check_cell_of_box, check_number_between
from lacekeys.layouts import check_layout_and_box
from lacekeys.words import shapes


def count_blocks(layout, box):
    """Return how many blocks a box has."""
    return sum([size[1] for size in block_sizes(layout, box)])


def block_sizes(layout, box):
    """Return the list of the tuples (t, how many) of the blocks of a box, ascending by t."""
    check_layout_and_box(layout, box)
    within = _count_within(layout.word, box)
    # No block is greater than the grid.
    above = within[1:] + [0]
    # A block is one of the box unless it is a half of another one within the box.
    counts = [many - 2 * greater for many, greater in zip(within, above)]
    return [(t, many) for t, many in enumerate(counts) if many > 0]


def block_of(layout, box, cell):
    """Return the tuple of the first and the last key of the block of a box with a cell."""
    check_layout_and_box(layout, box)
    check_cell_of_box(cell, box)
    # Of the blocks with the cell, those within the box are the least ones, up to the block of the box.
    within = [t for t, (i, j) in enumerate(shapes(layout.word)) if _is_block_within(i, j, cell, box)]
    bits = max(within)
    first = (layout.key(cell) >> bits) << bits
    return (first, first + (1 << bits) - 1)


def count_pages(layout, box, bits):
    """Return how many of all blocks of so many bits have a cell of a box."""
    check_layout_and_box(layout, box)
    check_number_between(bits, 0, len(layout.word))
    i, j = shapes(layout.word)[bits]
    return count_blocks_met(i, j, box)


def _count_within(word, box):
    """Return the list of how many blocks of t bits have all their cells in a box, by t from 0 on."""
    x1, y1, x2, y2 = box
    return [count_spans(i, x1, x2) * count_spans(j, y1, y2) for i, j in shapes(word)]


def _is_block_within(i, j, cell, box):
    """Tell whether the block of 2 ** i by 2 ** j cells with a cell has all its cells in a box."""
    x, y = (cell[0] >> i) << i, (cell[1] >> j) << j
    return is_in_box((x, y), box) and is_in_box((x + (1 << i) - 1, y + (1 << j) - 1), box)
