"""Several boxes together: their cells, each once, and the runs of these."""

from lacekeys.boxes import area_of, common_box, count_multiples, count_odd_multiples
from lacekeys.checks import check_boxes
from lacekeys.layouts import check_layout
from lacekeys.words import feet


def cells_of(layout, boxes):
    """Return how many cells are in at least one of the boxes."""
    check_layout(layout)
    check_boxes(boxes, layout.x_bits, layout.y_bits)
    return sum([sign * area_of(part) for sign, part in _parts_of(boxes)])


def runs_of(layout, boxes):
    """Return into how many stretches of keys that follow one another the cells of the boxes fall."""
    runs = cells_of(layout, boxes)
    parts = _parts_of(boxes)
    # A run begins at each cell whose key ahead is not a key of the boxes.
    for letter, i, j in feet(layout.word):
        for sign, part in parts:
            for sign_ahead, part_ahead in parts:
                runs -= sign * sign_ahead * _count_joined(letter, i, j, part, part_ahead)
    return runs


def _parts_of(boxes):
    """Return a list of tuples (sign, box), 1 or -1 and what some of the boxes have in common.

    The signs of the parts that a cell is in add up to 1 if it is in at least one of the boxes, to 0 otherwise.
    """
    parts = []
    for box in boxes:
        shared = [(-sign, common_box(part, box)) for sign, part in parts]
        parts = parts + [(1, box)] + [(sign, part) for sign, part in shared if part is not None]
    return parts


def _count_joined(letter, i, j, box, box_ahead):
    """Return how many cells of a box that have their last digit 1 at this letter have their key ahead in box_ahead."""
    # The key ahead belongs to the cell (x - 1, y + 2 ** j - 1), or (x + 2 ** i - 1, y - 1).
    dx, dy = (1, 1 - (1 << j)) if letter == "x" else (1 - (1 << i), 1)
    x1, y1, x2, y2 = box_ahead
    common = common_box(box, (x1 + dx, y1 + dy, x2 + dx, y2 + dy))
    if common is None:
        return 0
    x1, y1, x2, y2 = common
    if letter == "x":
        return count_odd_multiples(i, x1, x2) * count_multiples(j, y1, y2)
    return count_odd_multiples(j, y1, y2) * count_multiples(i, x1, x2)
