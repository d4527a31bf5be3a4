"""Loads that are changed call by call, and can be taken back: free ones, and ones with a budget of runs."""

from lacekeys.best import best_layout, load_runs
from lacekeys.checks import MOST_ITEMS, MOST_WEIGHT, check_bits, check_box, check_budget, check_index
from lacekeys.checks import check_number_between
from lacekeys.errors import InvalidOperation, Nothing, OverBudget, TooMany
from lacekeys.layouts import check_grid, check_layout

# How many parameters each call has.
PARAMETERS = {"put": 2, "drop": 1, "weigh": 2}


class LoadSheet:
    """A load that is changed, at first without items."""

    def __init__(self, x_bits, y_bits):
        check_bits(x_bits, y_bits)
        self._x_bits = x_bits
        self._y_bits = y_bits
        self._load = []
        # The calls that are not taken back, each with the load ahead of it.
        self._past = []

    def __eq__(self, other):
        return isinstance(other, LoadSheet) and not isinstance(other, BudgetSheet) and self._is_like(other)

    @property
    def load(self):
        """The list of the items."""
        return list(self._load)

    def put(self, box, weight):
        """Put an item behind the others."""
        self._perform(("put", box, weight))

    def drop(self, index):
        """Take out an item."""
        self._perform(("drop", index))

    def weigh(self, index, weight):
        """Give an item another weight."""
        self._perform(("weigh", index, weight))

    def undo(self):
        """Take back the last call that is not taken back yet."""
        if not self._past:
            raise Nothing("there is no call that is not taken back")
        _, self._load = self._past.pop()

    def log(self):
        """Return the list of the calls that are not taken back."""
        return [operation for operation, load in self._past]

    def runs(self, layout):
        """Return the runs of the load by a layout, 0 without items."""
        check_layout(layout)
        check_grid(layout, self._x_bits, self._y_bits)
        return load_runs(layout, self._load) if self._load else 0

    def best(self):
        """Return the tuple (runs, how many, word) that best_layout tells of the load."""
        if not self._load:
            raise Nothing("there are no items")
        return best_layout(self._x_bits, self._y_bits, self._load)

    def preview(self, *operations):
        """Return the runs that best would tell behind some calls, 0 without items."""
        _check_operations(operations)
        load = self._load
        for operation in operations:
            load = self._load_behind(load, operation)
        return self._least_runs(load)

    def _is_like(self, other):
        bits_are_equal = self._x_bits == other._x_bits and self._y_bits == other._y_bits
        return bits_are_equal and self._load == other._load

    def _perform(self, operation):
        load = self._load_behind(self._load, operation)
        self._past.append((operation, self._load))
        self._load = load

    def _load_behind(self, load, operation):
        """Return the load behind a call as a new list, or raise the error of the call."""
        if operation[0] == "put":
            check_box(operation[1], self._x_bits, self._y_bits)
            return _with_item(load, operation[1], operation[2])
        check_index(operation[1], len(load))
        if operation[0] == "drop":
            return load[:operation[1]] + load[operation[1] + 1:]
        return _with_weight(load, operation[1], operation[2])

    def _least_runs(self, load):
        return best_layout(self._x_bits, self._y_bits, load)[0] if load else 0


class BudgetSheet(LoadSheet):
    """A load that is changed only as long as its runs by the best layout are within a budget."""

    def __init__(self, x_bits, y_bits, budget):
        super().__init__(x_bits, y_bits)
        check_budget(budget)
        self._budget = budget

    def __eq__(self, other):
        return isinstance(other, BudgetSheet) and self._budget == other._budget and self._is_like(other)

    @property
    def budget(self):
        """The most runs."""
        return self._budget

    def put(self, box, weight):
        """Put an item behind the others, unless the least runs are then above the budget."""
        self.preview(("put", box, weight))
        super().put(box, weight)

    def drop(self, index):
        """Take out an item, unless the least runs are then above the budget."""
        self.preview(("drop", index))
        super().drop(index)

    def weigh(self, index, weight):
        """Give an item another weight, unless the least runs are then above the budget."""
        self.preview(("weigh", index, weight))
        super().weigh(index, weight)

    def preview(self, *operations):
        """Return the runs that best would tell behind some calls, unless one of them is above the budget."""
        _check_operations(operations)
        load = self._load
        for operation in operations:
            load = self._load_behind(load, operation)
            total = self._least_runs(load)
            if total > self._budget:
                raise OverBudget(total)
        return self._least_runs(load)


def _check_operations(operations):
    """Raise InvalidOperation unless all values have the form of a call."""
    for operation in operations:
        if not _is_operation(operation):
            raise InvalidOperation("not a tuple of put, drop or weigh and as many items as the call has parameters")


def _is_operation(value):
    if not isinstance(value, tuple) or len(value) == 0 or not isinstance(value[0], str):
        return False
    return value[0] in PARAMETERS and len(value) == PARAMETERS[value[0]] + 1


def _with_item(load, box, weight):
    check_number_between(weight, 1, MOST_WEIGHT)
    if len(load) == MOST_ITEMS:
        raise TooMany(MOST_ITEMS)
    return load + [(box, weight)]


def _with_weight(load, index, weight):
    check_number_between(weight, 1, MOST_WEIGHT)
    return load[:index] + [(load[index][0], weight)] + load[index + 1:]
