"""The texts of loads."""

from lacekeys.checks import MOST_ITEMS, check_bits, check_load, is_item
from lacekeys.errors import InvalidText
from lacekeys.numerals import is_numeral


def show_load(x_bits, y_bits, load):
    """Return the text of a load."""
    check_bits(x_bits, y_bits)
    check_load(load, x_bits, y_bits)
    return "; ".join([_show_item(box, weight) for box, weight in load])


def read_load(x_bits, y_bits, text):
    """Return the load with a text."""
    check_bits(x_bits, y_bits)
    if not isinstance(text, str):
        raise InvalidText(None)
    load = [_read_item(part) for part in text.split("; ")]
    for at, item in enumerate(load):
        if not is_item(item, x_bits, y_bits):
            raise InvalidText(at)
    if len(load) > MOST_ITEMS:
        raise InvalidText(len(load))
    return load


def _show_item(box, weight):
    x1, y1, x2, y2 = box
    return f"{weight}: {x1} {y1} {x2} {y2}"


def _read_item(part):
    """Return the tuple of the numbers behind the colon and of the one ahead of it, or None if some are no numbers."""
    weight, _, rest = part.partition(": ")
    words = rest.split(" ")
    if not is_numeral(weight) or not all([is_numeral(word) for word in words]):
        return None
    return (tuple([int(word) for word in words]), int(weight))
