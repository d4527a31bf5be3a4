"""Checks of arguments that may be any value: numbers, bits, cells, keys, boxes, sizes, budgets and loads."""

from lacekeys.boxes import is_in_box
from lacekeys.errors import InvalidBits, InvalidBox, InvalidBoxes, InvalidBudget, InvalidCell, InvalidIndex
from lacekeys.errors import InvalidKey, InvalidLoad, InvalidNumber, InvalidSize

MOST_BITS = 100
MOST_ITEMS = 20
MOST_WEIGHT = 10 ** 30
MOST_BOXES = 3


def is_integer(value):
    """Tell whether a value is an integer, other than True and False."""
    return isinstance(value, int) and not isinstance(value, bool)


def is_between(value, low, high):
    """Tell whether a value is an integer from low to high."""
    return is_integer(value) and low <= value <= high


def are_integers(value, many):
    """Tell whether a value is a tuple of so many integers."""
    if not isinstance(value, tuple) or len(value) != many:
        return False
    return all([is_integer(part) for part in value])


def is_cell(value, x_bits, y_bits):
    """Tell whether a value is a cell of the grid."""
    if not are_integers(value, 2):
        return False
    x, y = value
    return 0 <= x < (1 << x_bits) and 0 <= y < (1 << y_bits)


def is_box(value, x_bits, y_bits):
    """Tell whether a value is a box of the grid."""
    if not are_integers(value, 4):
        return False
    x1, y1, x2, y2 = value
    return 0 <= x1 <= x2 < (1 << x_bits) and 0 <= y1 <= y2 < (1 << y_bits)


def is_item(value, x_bits, y_bits):
    """Tell whether a value is an item of a load: a tuple of a box of the grid and a weight."""
    if not isinstance(value, tuple) or len(value) != 2:
        return False
    box, weight = value
    return is_box(box, x_bits, y_bits) and is_between(weight, 1, MOST_WEIGHT)


def check_bits(x_bits, y_bits):
    """Raise InvalidBits unless there is a grid of so many bits."""
    if not is_between(x_bits, 0, MOST_BITS):
        raise InvalidBits("x_bits is not an integer from 0 to 100")
    if not is_between(y_bits, 0, MOST_BITS):
        raise InvalidBits("y_bits is not an integer from 0 to 100")
    if x_bits == 0 and y_bits == 0:
        raise InvalidBits("x_bits and y_bits are both 0")


def check_cell(cell, x_bits, y_bits):
    """Raise InvalidCell unless the value is a cell of the grid."""
    if not is_cell(cell, x_bits, y_bits):
        raise InvalidCell("not a tuple (x, y) of two integers within the grid")


def check_key(key, x_bits, y_bits):
    """Raise InvalidKey unless the value is a key of the grid."""
    if not is_between(key, 0, (1 << (x_bits + y_bits)) - 1):
        raise InvalidKey("not an integer from 0 that is less than the number of cells")


def check_box(box, x_bits, y_bits):
    """Raise InvalidBox unless the value is a box of the grid."""
    if not is_box(box, x_bits, y_bits):
        raise InvalidBox("not a tuple (x1, y1, x2, y2) of four integers, a box of the grid")


def check_cell_of_box(cell, box):
    """Raise InvalidCell unless the value is a cell of a box of the grid."""
    if not are_integers(cell, 2) or not is_in_box(cell, box):
        raise InvalidCell("not a tuple (x, y) of two integers within the box")


def check_index(index, many):
    """Raise InvalidIndex unless the value is an index of one of so many things."""
    if not is_between(index, 0, many - 1):
        raise InvalidIndex("not an integer from 0 that is less than the number of what is counted")


def check_number(number, low):
    """Raise InvalidNumber unless the value is an integer from low on."""
    if not is_integer(number) or number < low:
        raise InvalidNumber(f"not an integer from {low} on")


def check_number_between(number, low, high):
    """Raise InvalidNumber unless the value is an integer from low to high."""
    if not is_between(number, low, high):
        raise InvalidNumber(f"not an integer from {low} to {high}")


def check_sizes(width, height, x_bits, y_bits):
    """Raise InvalidSize unless the values are a width and a height within the grid."""
    if not is_between(width, 1, 1 << x_bits):
        raise InvalidSize("the width is not an integer from 1 to 2 ** x_bits")
    if not is_between(height, 1, 1 << y_bits):
        raise InvalidSize("the height is not an integer from 1 to 2 ** y_bits")


def check_budget(budget):
    """Raise InvalidBudget unless the value is an integer from 0 on."""
    if not is_integer(budget) or budget < 0:
        raise InvalidBudget("not an integer from 0 on")


def check_load(load, x_bits, y_bits):
    """Raise InvalidLoad unless the value is a load for the grid."""
    if not isinstance(load, list) or not 1 <= len(load) <= MOST_ITEMS:
        raise InvalidLoad(None)
    for at, item in enumerate(load):
        if not is_item(item, x_bits, y_bits):
            raise InvalidLoad(at)


def check_boxes(boxes, x_bits, y_bits):
    """Raise InvalidBoxes unless the value is a list of boxes of the grid, not too many of them."""
    if not isinstance(boxes, list) or not 1 <= len(boxes) <= MOST_BOXES:
        raise InvalidBoxes(None)
    for at, box in enumerate(boxes):
        if not is_box(box, x_bits, y_bits):
            raise InvalidBoxes(at)
