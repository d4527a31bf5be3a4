"""The blocks of a grid, halved letter by letter, and what they have of a box.

The part of a block is what it has of a box: a box that is counted from the first cell of the block, or None. Blocks
with the same part at the same letter have their runs in the same places. The blocks that a letter halves, and that have
some but not all cells of the box, have at most eight different parts, however great the grid is.
"""

from lacekeys.words import feet


def is_whole(part, i, j):
    """Tell whether the part of a block of 2 ** i by 2 ** j cells is the whole block."""
    return part == (0, 0, (1 << i) - 1, (1 << j) - 1)


def halve(letter, i, j, part):
    """Return the parts of the low and the high half of a block that is halved by a letter with the foot (i, j)."""
    x1, y1, x2, y2 = part
    low, high = None, None
    if letter == "x":
        middle = 1 << i
        if x1 < middle:
            low = (x1, y1, min(x2, middle - 1), y2)
        if x2 >= middle:
            high = (max(x1 - middle, 0), y1, x2 - middle, y2)
    else:
        middle = 1 << j
        if y1 < middle:
            low = (x1, y1, x2, min(y2, middle - 1))
        if y2 >= middle:
            high = (x1, max(y1 - middle, 0), x2, y2 - middle)
    return (low, high)


def count_parts(word, box):
    """Return for each letter a dict of how many of the blocks that it halves have which part.

    Blocks with no cell or all cells of the box are left out: nothing begins or ends within them.
    """
    counts = []
    level = {} if is_whole(box, word.count("x"), word.count("y")) else {box: 1}
    for letter, i, j in feet(word):
        counts.append(level)
        below = {}
        for part, many in level.items():
            for half in halve(letter, i, j, part):
                if half is not None and not is_whole(half, i, j):
                    below[half] = below.get(half, 0) + many
        level = below
    return counts
