"""Layouts: which digits of x and of y make the key of a cell."""

from lacekeys.checks import check_bits, check_box, check_cell, check_key, is_between
from lacekeys.errors import InvalidBits, InvalidLayout, InvalidWord, UnlikeGrids
from lacekeys.words import feet, is_word


class Layout:
    """The layout of a word of the letters x and y."""

    def __init__(self, word):
        if not is_word(word):
            raise InvalidWord("not a string of the letters x and y, each at most 100 times")
        self._word = word
        self._x_bits = word.count("x")
        self._y_bits = word.count("y")

    def __eq__(self, other):
        return isinstance(other, Layout) and self._word == other._word

    @property
    def word(self):
        """The word."""
        return self._word

    @property
    def x_bits(self):
        """The number of letters x."""
        return self._x_bits

    @property
    def y_bits(self):
        """The number of letters y."""
        return self._y_bits

    def key(self, cell):
        """Return the key of a cell."""
        check_cell(cell, self._x_bits, self._y_bits)
        x, y = cell
        total = 0
        for letter, i, j in feet(self._word):
            digit = (x >> i) & 1 if letter == "x" else (y >> j) & 1
            total += digit << (i + j)
        return total

    def cell(self, key):
        """Return the cell with a key."""
        check_key(key, self._x_bits, self._y_bits)
        x, y = 0, 0
        for letter, i, j in feet(self._word):
            digit = (key >> (i + j)) & 1
            if letter == "x":
                x += digit << i
            else:
                y += digit << j
        return (x, y)


def check_layout(layout):
    """Raise InvalidLayout unless the value is a Layout."""
    if not isinstance(layout, Layout):
        raise InvalidLayout("not a Layout")


def check_grid(layout, x_bits, y_bits):
    """Raise UnlikeGrids unless a layout has so many letters x and y."""
    if layout.x_bits != x_bits or layout.y_bits != y_bits:
        raise UnlikeGrids("the layout has other numbers of letters x or y")


def check_layout_and_box(layout, box):
    """Raise InvalidLayout unless the first value is a Layout, InvalidBox unless the other is a box of its grid."""
    check_layout(layout)
    check_box(box, layout.x_bits, layout.y_bits)


def rows(x_bits, y_bits):
    """Return the Layout with all letters y first."""
    check_bits(x_bits, y_bits)
    return Layout(_rows_word(x_bits, y_bits))


def columns(x_bits, y_bits):
    """Return the Layout with all letters x first."""
    check_bits(x_bits, y_bits)
    return Layout("x" * x_bits + "y" * y_bits)


def laced(x_bits, y_bits):
    """Return the Layout with y and x in turns, x last, and the letters that are left over in front."""
    check_bits(x_bits, y_bits)
    turns = min(x_bits, y_bits)
    return Layout("x" * (x_bits - turns) + "y" * (y_bits - turns) + "yx" * turns)


def tiled(x_bits, y_bits, tile_x, tile_y):
    """Return the Layout of tiles row by row, in each of which the cells are row by row."""
    check_bits(x_bits, y_bits)
    if not is_between(tile_x, 0, x_bits):
        raise InvalidBits("tile_x is not an integer from 0 to x_bits")
    if not is_between(tile_y, 0, y_bits):
        raise InvalidBits("tile_y is not an integer from 0 to y_bits")
    return Layout(_rows_word(x_bits - tile_x, y_bits - tile_y) + _rows_word(tile_x, tile_y))


def _rows_word(x_bits, y_bits):
    return "y" * y_bits + "x" * x_bits
