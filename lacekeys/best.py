"""Loads: boxes with weights, what they cost by a layout, and the layouts that are the best for them."""

from lacekeys.blocks import count_blocks
from lacekeys.boxes import area_of, count_blocks_met
from lacekeys.checks import check_bits, check_index, check_load, check_number_between
from lacekeys.layouts import check_layout
from lacekeys.runs import count_runs
from lacekeys.savings import blocks_within, saved_by_x, saved_by_y, sides_of
from lacekeys.ways import best_word, count_words, find_ways, nth_word


def load_runs(layout, load):
    """Return the sum of the weights of a load, each times the runs of its box."""
    check_layout(layout)
    check_load(load, layout.x_bits, layout.y_bits)
    return sum([weight * count_runs(layout, box) for box, weight in load])


def load_blocks(layout, load):
    """Return the sum of the weights of a load, each times the blocks of its box."""
    check_layout(layout)
    check_load(load, layout.x_bits, layout.y_bits)
    return sum([weight * count_blocks(layout, box) for box, weight in load])


def best_layout(x_bits, y_bits, load):
    """Return the tuple (runs, how many, word): the least load_runs, how many words have it, and the first of these."""
    check_bits(x_bits, y_bits)
    check_load(load, x_bits, y_bits)
    sides = _sides_of_load(x_bits, y_bits, load)
    saved, many, word = best_word(x_bits, y_bits, saved_by_x(sides), saved_by_y(sides))
    return (_area_of_load(load) - saved, many, word)


def worst_layout(x_bits, y_bits, load):
    """Return the tuple (runs, how many, word): the greatest load_runs, how many words have it, the first of these."""
    check_bits(x_bits, y_bits)
    check_load(load, x_bits, y_bits)
    # Where all that is saved counts below 0, the words that save least are those that save most.
    sides = _sides_of_load(x_bits, y_bits, [(box, -weight) for box, weight in load])
    saved, many, word = best_word(x_bits, y_bits, saved_by_x(sides), saved_by_y(sides))
    return (_area_of_load(load) + saved, many, word)


def nth_best(x_bits, y_bits, load, index):
    """Return the word with an index among those with the least load_runs, by alphabet."""
    check_bits(x_bits, y_bits)
    check_load(load, x_bits, y_bits)
    sides = _sides_of_load(x_bits, y_bits, load)
    ways = find_ways(x_bits, y_bits, saved_by_x(sides), saved_by_y(sides))
    check_index(index, count_words(ways[x_bits, y_bits]))
    return nth_word(ways, x_bits, y_bits, index)


def best_blocks(x_bits, y_bits, load):
    """Return the tuple (blocks, how many, word): the least load_blocks, how many words have it, the first of these."""
    check_bits(x_bits, y_bits)
    check_load(load, x_bits, y_bits)
    within = blocks_within(_sides_of_load(x_bits, y_bits, load))
    # A letter with a foot makes blocks of one bit more; each of them that lies within a box saves one of its halves.
    saved, many, word = best_word(x_bits, y_bits, within[1:], [row[1:] for row in within])
    return (_area_of_load(load) - saved, many, word)


def best_page(x_bits, y_bits, load, bits):
    """Return the tuple (pages, i, j): the least sum of the weights, each times count_pages, and its blocks' shape."""
    check_bits(x_bits, y_bits)
    check_load(load, x_bits, y_bits)
    check_number_between(bits, 0, x_bits + y_bits)
    pages = []
    for i in range(max(0, bits - y_bits), min(x_bits, bits) + 1):
        pages.append((_pages_of_load(load, i, bits - i), i, bits - i))
    return min(pages)


def _sides_of_load(x_bits, y_bits, load):
    return [sides_of(x_bits, y_bits, box, weight) for box, weight in load]


def _area_of_load(load):
    return sum([weight * area_of(box) for box, weight in load])


def _pages_of_load(load, i, j):
    return sum([weight * count_blocks_met(i, j, box) for box, weight in load])
