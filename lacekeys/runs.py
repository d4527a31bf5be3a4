"""The runs of a box: how many there are, what the letters save, and the ends."""

from lacekeys.boxes import area_of, count_odd_multiples, count_spans
from lacekeys.layouts import check_layout_and_box
from lacekeys.words import feet


def count_runs(layout, box):
    """Return the number of runs of a box."""
    letters = saved(layout, box)
    return area_of(box) - sum(letters)


def saved(layout, box):
    """Return the list of what the letters save in a box, in the sequence of the word."""
    check_layout_and_box(layout, box)
    return [saved_by(letter, i, j, box) for letter, i, j in feet(layout.word)]


def ends(layout, box):
    """Return the tuple of the least and the greatest key of a box."""
    check_layout_and_box(layout, box)
    x1, y1, x2, y2 = box
    # A key grows with x and with y, so its ends are at two corners.
    return (layout.key((x1, y1)), layout.key((x2, y2)))


def saved_by(letter, i, j, box):
    """Return what a letter with the foot (i, j) saves in a box."""
    x1, y1, x2, y2 = box
    if letter == "x":
        return count_odd_multiples(i, x1 + 1, x2) * count_spans(j, y1, y2)
    return count_odd_multiples(j, y1 + 1, y2) * count_spans(i, x1, x2)
