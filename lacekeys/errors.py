"""The errors of the package, one class for each kind of failure."""


class LaceError(ValueError):
    """The base of all errors of the package."""


class InvalidLoad(LaceError):
    """A value is not a load: item is the index of its first wrong item, or None."""

    def __init__(self, item):
        super().__init__(f"not a valid load, item: {item}")
        self.item = item


class InvalidBoxes(LaceError):
    """A value is not a list of boxes: item is the index of its first wrong item, or None."""

    def __init__(self, item):
        super().__init__(f"not a valid list of boxes, item: {item}")
        self.item = item


class InvalidText(LaceError):
    """A value is not the text of a load: part is the index of its first wrong part, or None."""

    def __init__(self, part):
        super().__init__(f"not the text of a load, part: {part}")
        self.part = part


class TooMany(LaceError):
    """There are already as many items as limit allows."""

    def __init__(self, limit):
        super().__init__(f"no more items than {limit}")
        self.limit = limit


class OverBudget(LaceError):
    """The runs, total of them, are above the budget."""

    def __init__(self, total):
        super().__init__(f"above the budget, runs: {total}")
        self.total = total


class InvalidWord(LaceError):
    """A value is not the word of a layout."""


class InvalidLayout(LaceError):
    """A value is not a Layout."""


class InvalidBits(LaceError):
    """A value is not a number of bits that is allowed here."""


class InvalidCell(LaceError):
    """A value is not a cell that is allowed here."""


class InvalidKey(LaceError):
    """A value is not a key of the grid."""


class InvalidBox(LaceError):
    """A value is not a box of the grid."""


class InvalidIndex(LaceError):
    """A value is not an index of what is counted."""


class InvalidNumber(LaceError):
    """A value is not a number that is allowed here."""


class InvalidSize(LaceError):
    """A value is not a width or a height within the grid."""


class InvalidBudget(LaceError):
    """A value is not a budget of runs."""


class UnlikeGrids(LaceError):
    """Two grids that should be alike have other numbers of bits."""


class InvalidOperation(LaceError):
    """A value is not an operation of a sheet."""


class Nothing(LaceError):
    """There is nothing to take back or to tell of."""


class InvalidCommand(LaceError):
    """A value has none of the forms of a command."""
