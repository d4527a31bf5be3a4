"""A console: commands, as strings, about a load that is changed and a layout."""

from lacekeys.blocks import count_blocks
from lacekeys.errors import InvalidCommand
from lacekeys.layouts import Layout, check_grid, laced
from lacekeys.numerals import is_signed_numeral
from lacekeys.places import total_runs
from lacekeys.runs import count_runs, ends
from lacekeys.sheets import LoadSheet
from lacekeys.texts import show_load

# How many numbers stand behind the word of each command, other than layout.
NUMBERS = {
    "grid": 2, "put": 5, "drop": 1, "weigh": 2, "undo": 0, "show": 0, "word": 0, "total": 0, "best": 0, "key": 2,
    "cell": 1, "runs": 4, "blocks": 4, "ends": 4, "everywhere": 2,
}


def _put(sheet, x1, y1, x2, y2, weight):
    sheet.put((x1, y1, x2, y2), weight)


def _drop(sheet, index):
    sheet.drop(index)


def _weigh(sheet, index, weight):
    sheet.weigh(index, weight)


def _undo(sheet):
    sheet.undo()


def _tell_load(sheet, layout):
    load = sheet.load
    return show_load(layout.x_bits, layout.y_bits, load) if load else "none"


def _tell_word(sheet, layout):
    return layout.word


def _tell_total(sheet, layout):
    return str(sheet.runs(layout))


def _tell_best(sheet, layout):
    runs, many, word = sheet.best()
    return f"{runs} {many} {word}"


def _tell_key(sheet, layout, x, y):
    return str(layout.key((x, y)))


def _tell_cell(sheet, layout, key):
    x, y = layout.cell(key)
    return f"{x} {y}"


def _tell_runs(sheet, layout, *box):
    return str(count_runs(layout, box))


def _tell_blocks(sheet, layout, *box):
    return str(count_blocks(layout, box))


def _tell_ends(sheet, layout, *box):
    first, last = ends(layout, box)
    return f"{first} {last}"


def _tell_everywhere(sheet, layout, width, height):
    return str(total_runs(layout, width, height))


CHANGES = {"put": _put, "drop": _drop, "weigh": _weigh, "undo": _undo}

ANSWERS = {
    "show": _tell_load, "word": _tell_word, "total": _tell_total, "best": _tell_best, "key": _tell_key,
    "cell": _tell_cell, "runs": _tell_runs, "blocks": _tell_blocks, "ends": _tell_ends,
    "everywhere": _tell_everywhere,
}


class Console:
    """A LoadSheet and a layout of its grid, to which commands are given."""

    def __init__(self):
        self._sheet = LoadSheet(3, 3)
        self._layout = laced(3, 3)

    def execute(self, command):
        """Perform a command and return its answer."""
        first, *others = _words_of(command)
        if first == "layout":
            return self._take_layout(others[0])
        numbers = [int(word) for word in others]
        if first == "grid":
            return self._take_grid(numbers[0], numbers[1])
        if first in CHANGES:
            change = CHANGES[first]
            change(self._sheet, *numbers)
            return "ok"
        tell = ANSWERS[first]
        return tell(self._sheet, self._layout, *numbers)

    def _take_layout(self, word):
        layout = Layout(word)
        check_grid(layout, self._layout.x_bits, self._layout.y_bits)
        self._layout = layout
        return "ok"

    def _take_grid(self, x_bits, y_bits):
        self._sheet = LoadSheet(x_bits, y_bits)
        self._layout = laced(x_bits, y_bits)
        return "ok"


def _words_of(command):
    """Return the list of the words of a command, or raise InvalidCommand if it has none of the forms."""
    words = command.split(" ") if isinstance(command, str) else []
    if not _has_form(words):
        raise InvalidCommand("none of the forms of a command")
    return words


def _has_form(words):
    if not words:
        return False
    if words[0] == "layout":
        return len(words) == 2 and _has_letters_alone(words[1])
    if words[0] not in NUMBERS or len(words) != NUMBERS[words[0]] + 1:
        return False
    return all([is_signed_numeral(word) for word in words[1:]])


def _has_letters_alone(word):
    return word != "" and word.count("x") + word.count("y") == len(word)
