import random
import time
import unittest

from lacekeys.best import best_layout, load_runs
from lacekeys.errors import InvalidBits, InvalidBox, InvalidBudget, InvalidIndex, InvalidLayout, InvalidNumber
from lacekeys.errors import InvalidOperation, LaceError, Nothing, OverBudget, TooMany, UnlikeGrids
from lacekeys.layouts import Layout, columns, laced, rows
from lacekeys.sheets import BudgetSheet, LoadSheet
from tests import plain, wrong

SQUARE, BAR, CELL = (0, 0, 2, 2), (1, 0, 2, 3), (3, 3, 3, 3)
LAST = 2 ** 100 - 1
# Above the runs of any load.
HIGH = 10 ** 99


def both(x_bits, y_bits):
    """Return an empty sheet of each kind."""
    return [LoadSheet(x_bits, y_bits), BudgetSheet(x_bits, y_bits, HIGH)]


def filled(sheet, *items):
    """Return a sheet into which items are put."""
    for box, weight in items:
        sheet.put(box, weight)
    return sheet


def call(sheet, operation):
    """Call a sheet as an operation tells."""
    return getattr(sheet, operation[0])(*operation[1:])


def behind(load, operation):
    """Return a list of items behind an operation that has no error."""
    if operation[0] == "put":
        return [*load, operation[1:]]
    told = list(load)
    if operation[0] == "drop":
        del told[operation[1]]
    else:
        told[operation[1]] = (told[operation[1]][0], operation[2])
    return told


def some_operation(chance, word, many):
    """Return an operation that is right for a sheet of so many items."""
    weight = chance.randint(1, 10 ** chance.choice((0, 1, 2, 30)))
    if many == 0 or many < 20 and chance.random() < 0.5:
        return ("put", plain.some_box(chance, word), weight)
    if chance.random() < 0.4:
        return ("drop", chance.randrange(many))
    return ("weigh", chance.randrange(many), weight)


def least_runs(x_bits, y_bits, load):
    return best_layout(x_bits, y_bits, load)[0] if load else 0


class ExampleTest(unittest.TestCase):
    def test_example(self):
        sheet = LoadSheet(2, 2)
        told = [sheet.put(SQUARE, 1), sheet.put(BAR, 2), sheet.best(), sheet.runs(Layout("yxyx"))]
        told += [sheet.preview(("weigh", 1, 1)), sheet.undo(), sheet.load, sheet.log()]
        end = [[((0, 0, 2, 2), 1)], [("put", (0, 0, 2, 2), 1)]]
        self.assertEqual(told, [None, None, (5, 1, "xxyy"), 16, 4, None] + end)
        wrong.hold_error(self, BudgetSheet(2, 2, 2).put, (SQUARE, 1), OverBudget(3))


class ClassTest(unittest.TestCase):
    def test_methods_are_defined_in_the_class(self):
        names = ["__init__", "__eq__", "put", "drop", "weigh", "undo", "log", "runs", "best", "preview"]
        for name in names:
            self.assertTrue(callable(vars(LoadSheet)[name]), name)
        for name in ("__init__", "__eq__", "put", "drop", "weigh", "preview"):
            self.assertTrue(callable(vars(BudgetSheet)[name]), name)
        self.assertIsInstance(vars(LoadSheet)["load"], property)
        self.assertIsInstance(vars(BudgetSheet)["budget"], property)
        self.assertTrue(issubclass(BudgetSheet, LoadSheet))

    def test_properties_are_not_assigned(self):
        for sheet in both(2, 2):
            for name in ("load", "budget") if isinstance(sheet, BudgetSheet) else ("load",):
                with self.assertRaises(AttributeError):
                    setattr(sheet, name, [])

    def test_new_sheets(self):
        for x_bits, y_bits in ((1, 0), (0, 1), (2, 2), (100, 100), (100, 0), (0, 100)):
            for sheet in both(x_bits, y_bits) + [BudgetSheet(x_bits, y_bits, 0)]:
                self.assertEqual((sheet.load, sheet.log(), sheet.preview()), ([], [], 0))
                self.assertEqual(sheet.runs(laced(x_bits, y_bits)), 0)
                for method in (sheet.best, sheet.undo):
                    wrong.hold_error(self, method, (), Nothing)
        for budget in (0, 1, 10 ** 99, 10 ** 900):
            self.assertEqual(BudgetSheet(2, 2, budget).budget, budget)

    def test_wrong_bits_and_budgets(self):
        bits, budgets = (InvalidBits, plain.wrong_bits()), (InvalidBudget, plain.wrong_integers(0))
        wrong.hold_errors(self, LoadSheet, (2, 2), [bits, bits])
        wrong.hold_errors(self, BudgetSheet, (2, 2, 0), [bits, bits, budgets])
        wrong.hold_error(self, LoadSheet, (0, 0), InvalidBits)
        wrong.hold_error(self, BudgetSheet, (0, 0, -1), InvalidBits)


class EqualTest(unittest.TestCase):
    def hold(self, one, two, equal):
        for left, right in ((one, two), (two, one)):
            self.assertIs(left == right, equal)
            self.assertIs(left != right, not equal)

    def test_sheets_of_one_kind(self):
        for make in (LoadSheet, lambda n, m: BudgetSheet(n, m, 50)):
            told = [
                make(2, 2), filled(make(2, 2), (SQUARE, 1)), filled(make(2, 2), (SQUARE, 2)), make(2, 3), make(3, 2),
                filled(make(2, 2), (BAR, 1)), filled(make(2, 2), (SQUARE, 1), (BAR, 1)),
                filled(make(2, 2), (BAR, 1), (SQUARE, 1)), filled(make(2, 3), (SQUARE, 1)),
                filled(make(3, 2), (SQUARE, 1)), filled(make(2, 2), (SQUARE, 1), (SQUARE, 1)),
            ]
            for at, one in enumerate(told):
                for other_at, two in enumerate(told):
                    self.hold(one, two, at == other_at)

    def test_the_way_to_a_load_does_not_matter(self):
        for one, two in zip(both(2, 2), both(2, 2)):
            filled(one, (SQUARE, 1), (BAR, 2))
            filled(two, (CELL, 1), (SQUARE, 5), (BAR, 2))
            self.hold(one, two, False)
            two.drop(0)
            two.weigh(0, 1)
            self.hold(one, two, True)
            two.undo()
            self.hold(one, two, False)

    def test_budgets(self):
        items = [(SQUARE, 1), (BAR, 2)]
        for given in ([], items[:1], items):
            self.hold(filled(BudgetSheet(2, 2, 50), *given), filled(BudgetSheet(2, 2, 50), *given), True)
            self.hold(filled(BudgetSheet(2, 2, 50), *given), filled(BudgetSheet(2, 2, 51), *given), False)
            self.hold(filled(BudgetSheet(2, 2, 50), *given), filled(LoadSheet(2, 2), *given), False)
            self.hold(filled(LoadSheet(2, 2), *given), filled(LoadSheet(2, 2), *given), True)

    def test_any_value(self):
        for sheet in both(2, 2):
            filled(sheet, (SQUARE, 1))
            for value in plain.strangers() + [0, 1, (), sheet.load, (2, 2), laced(2, 2), HIGH]:
                self.hold(sheet, value, False)


class SequenceTest(unittest.TestCase):
    def hold(self, sheet, load, log, layout):
        """Hold what a sheet tells against a list of its items and one of its calls."""
        self.assertEqual(sheet.load, load)
        self.assertEqual(sheet.log(), log)
        self.assertEqual(sheet.runs(layout), load_runs(layout, load) if load else 0)
        if load:
            self.assertEqual(sheet.best(), best_layout(layout.x_bits, layout.y_bits, load))
        else:
            wrong.hold_error(self, sheet.best, (), Nothing)

    def test_long_sequences_undone_in_parts_and_all_the_way(self):
        chance = random.Random(91)
        for x_bits, y_bits in ((2, 2), (3, 1), (0, 4), (5, 6)):
            word = plain.some_word(chance, x_bits, y_bits)
            for sheet in both(x_bits, y_bits):
                loads, log = [[]], []
                for turn in range(150):
                    if log and chance.random() < (0.25 if turn % 50 < 40 else 0.8):
                        self.assertIsNone(sheet.undo())
                        loads.pop()
                        log.pop()
                    else:
                        operation = some_operation(chance, word, len(loads[-1]))
                        self.assertIsNone(call(sheet, operation))
                        loads.append(behind(loads[-1], operation))
                        log.append(operation)
                    self.hold(sheet, loads[-1], log, Layout(word))
                while log:
                    self.assertIsNone(sheet.undo())
                    loads.pop()
                    log.pop()
                    self.hold(sheet, loads[-1], log, Layout(word))
                wrong.hold_error(self, sheet.undo, (), Nothing)
                self.hold(sheet, [], [], Layout(word))

    def test_refused_calls_change_nothing(self):
        chance = random.Random(92)
        for sheet in both(2, 2):
            log, load = [], []
            for turn in range(60):
                operation = some_operation(chance, "xxyy", len(load))
                call(sheet, operation)
                load, log = behind(load, operation), log + [operation]
                for name, arguments, error in (
                    ("put", ((0, 0, 4, 0), 1), InvalidBox), ("put", (SQUARE, 0), InvalidNumber),
                    ("drop", (len(load),), InvalidIndex), ("drop", (-1,), InvalidIndex),
                    ("weigh", (len(load), 1), InvalidIndex), ("weigh", (0, 0), InvalidNumber if load else InvalidIndex),
                    ("preview", (("drop", len(load)),), InvalidIndex), ("preview", (("undo",),), InvalidOperation),
                    ("runs", (laced(2, 3),), UnlikeGrids),
                ):
                    wrong.hold_error(self, getattr(sheet, name), arguments, error)
                    self.assertEqual((sheet.load, sheet.log()), (load, log))

    def test_items_are_put_behind_and_the_others_move_up(self):
        for sheet in both(2, 2):
            filled(sheet, (SQUARE, 1), (BAR, 2), (CELL, 3), (SQUARE, 1))
            sheet.drop(1)
            self.assertEqual(sheet.load, [(SQUARE, 1), (CELL, 3), (SQUARE, 1)])
            sheet.weigh(2, 10 ** 30)
            self.assertEqual(sheet.load, [(SQUARE, 1), (CELL, 3), (SQUARE, 10 ** 30)])
            sheet.put(BAR, 4)
            self.assertEqual(sheet.load, [(SQUARE, 1), (CELL, 3), (SQUARE, 10 ** 30), (BAR, 4)])
            puts = [("put", SQUARE, 1), ("put", BAR, 2), ("put", CELL, 3), ("put", SQUARE, 1)]
            self.assertEqual(sheet.log(), puts + [("drop", 1), ("weigh", 2, 10 ** 30), ("put", BAR, 4)])
            for load in (
                [(SQUARE, 1), (CELL, 3), (SQUARE, 10 ** 30)], [(SQUARE, 1), (CELL, 3), (SQUARE, 1)],
                [(SQUARE, 1), (BAR, 2), (CELL, 3), (SQUARE, 1)], [(SQUARE, 1), (BAR, 2), (CELL, 3)],
            ):
                sheet.undo()
                self.assertEqual(sheet.load, load)

    def test_a_weight_that_is_the_same_is_a_call_too(self):
        for sheet in both(2, 2):
            filled(sheet, (SQUARE, 3))
            sheet.weigh(0, 3)
            self.assertEqual(sheet.log(), [("put", SQUARE, 3), ("weigh", 0, 3)])
            sheet.undo()
            self.assertEqual((sheet.load, sheet.log()), ([(SQUARE, 3)], [("put", SQUARE, 3)]))

    def test_lists_are_new_each_time(self):
        for sheet in both(2, 2):
            filled(sheet, (SQUARE, 1), (BAR, 2))
            for _ in range(2):
                load, log = sheet.load, sheet.log()
                self.assertEqual((type(load), type(log)), (list, list))
                self.assertEqual({type(one) for one in load + log}, {tuple})
                load[0] = None
                load.append(1)
                log.clear()
                self.assertEqual(sheet.load, [(SQUARE, 1), (BAR, 2)])
                self.assertEqual(sheet.log(), [("put", SQUARE, 1), ("put", BAR, 2)])
            sheet.undo()
            sheet.load.clear()
            sheet.log().append(None)
            self.assertEqual((sheet.load, sheet.log()), ([(SQUARE, 1)], [("put", SQUARE, 1)]))

    def test_what_a_sheet_told_earlier_stays(self):
        sheet = filled(LoadSheet(2, 2), (SQUARE, 1))
        load, log = sheet.load, sheet.log()
        sheet.weigh(0, 2)
        sheet.put(BAR, 1)
        self.assertEqual((load, log), ([(SQUARE, 1)], [("put", SQUARE, 1)]))

    def test_sheets_do_not_share_what_they_hold(self):
        one, two = LoadSheet(2, 2), LoadSheet(2, 2)
        one.put(SQUARE, 1)
        self.assertEqual((two.load, two.log()), ([], []))

    def test_runs_by_layouts(self):
        for sheet in both(2, 2):
            filled(sheet, (SQUARE, 1), (BAR, 2))
            self.assertEqual([sheet.runs(layout) for layout in (laced(2, 2), rows(2, 2), columns(2, 2))], [16, 11, 5])

    def test_most_items(self):
        for sheet in both(2, 2):
            filled(sheet, *[(SQUARE, weight) for weight in range(1, 21)])
            self.assertEqual(len(sheet.load), 20)
            wrong.hold_error(self, sheet.put, (SQUARE, 1), TooMany(20))
            wrong.hold_error(self, sheet.preview, (("put", SQUARE, 1),), TooMany(20))
            # Its own errors come first.
            wrong.hold_error(self, sheet.put, (None, 1), InvalidBox)
            wrong.hold_error(self, sheet.put, (SQUARE, 0), InvalidNumber)
            wrong.hold_error(self, sheet.preview, (("put", SQUARE, 0),), InvalidNumber)
            self.assertEqual((len(sheet.load), len(sheet.log())), (20, 20))
            self.assertEqual(sheet.preview(("drop", 3), ("put", SQUARE, 4)), 3 * 210)
            sheet.drop(19)
            sheet.put(BAR, 1)
            wrong.hold_error(self, sheet.put, (CELL, 1), TooMany(20))


class ErrorsTest(unittest.TestCase):
    def test_wrong_arguments_of_put(self):
        for x_bits, y_bits in ((2, 2), (100, 100), (0, 1)):
            boxes = (InvalidBox, plain.wrong_boxes(x_bits, y_bits))
            weights = (InvalidNumber, plain.wrong_integers(1, 10 ** 30))
            for sheet in both(x_bits, y_bits) + [BudgetSheet(x_bits, y_bits, 0)]:
                wrong.hold_errors(self, sheet.put, ((0, 0, 0, 0), 1), [boxes, weights])
                self.assertEqual((sheet.load, sheet.log()), ([], []))

    def test_wrong_arguments_of_drop_and_weigh(self):
        for many in (0, 1, 3, 20):
            for sheet in both(2, 2):
                filled(sheet, *[(SQUARE, 1)] * many)
                log = sheet.log()
                indexes = (InvalidIndex, plain.wrong_integers(0, many - 1))
                weights = (InvalidNumber, plain.wrong_integers(1, 10 ** 30))
                if many:
                    wrong.hold_errors(self, sheet.drop, (0,), [indexes])
                    wrong.hold_errors(self, sheet.weigh, (0, 1), [indexes, weights])
                for index in (0, many, -1, None):
                    if index != 0 or many == 0:
                        wrong.hold_error(self, sheet.drop, (index,), InvalidIndex)
                        wrong.hold_error(self, sheet.weigh, (index, None), InvalidIndex)
                self.assertEqual((sheet.load, sheet.log()), ([(SQUARE, 1)] * many, log))

    def test_bounds_that_are_right(self):
        for sheet in both(100, 100):
            sheet.put((LAST, LAST, LAST, LAST), 10 ** 30)
            sheet.put((0, 0, LAST, LAST), 1)
            sheet.weigh(0, 1)
            sheet.weigh(1, 10 ** 30)
            self.assertEqual(sheet.load, [((LAST, LAST, LAST, LAST), 1), ((0, 0, LAST, LAST), 10 ** 30)])
            self.assertEqual(sheet.best()[0], 10 ** 30 + 1)

    def test_wrong_arguments_of_runs(self):
        for sheet in both(2, 2) + [filled(one, (SQUARE, 1)) for one in both(2, 2)]:
            wrong.hold_errors(self, sheet.runs, (laced(2, 2),), [(InvalidLayout, plain.wrong_layouts())])
            for layout in (laced(2, 1), laced(1, 2), laced(3, 2), laced(2, 3), laced(4, 0), laced(100, 100)):
                wrong.hold_error(self, sheet.runs, (layout,), UnlikeGrids)


class PreviewTest(unittest.TestCase):
    def hold_unchanged(self, sheet, load, log):
        self.assertEqual((sheet.load, sheet.log()), (load, log))

    def test_previews_of_none_to_twelve_calls(self):
        chance = random.Random(93)
        for x_bits, y_bits in ((2, 2), (4, 3), (0, 5)):
            word = "x" * x_bits + "y" * y_bits
            for sheet in both(x_bits, y_bits):
                for turn in range(4):
                    for many in range(13):
                        load, log = sheet.load, sheet.log()
                        operations, told = [], load
                        for _ in range(many):
                            operations.append(some_operation(chance, word, len(told)))
                            told = behind(told, operations[-1])
                        self.assertEqual(sheet.preview(*operations), least_runs(x_bits, y_bits, told))
                        self.hold_unchanged(sheet, load, log)
                    call(sheet, some_operation(chance, word, len(sheet.load)))

    def test_previews_that_end_without_items(self):
        for sheet in both(2, 2):
            self.assertEqual(sheet.preview(("put", SQUARE, 1), ("drop", 0)), 0)
            filled(sheet, (SQUARE, 1), (BAR, 1))
            self.assertEqual(sheet.preview(("drop", 1), ("drop", 0)), 0)
            self.assertEqual(sheet.preview(), 4)

    def test_errors_within(self):
        right = [("put", SQUARE, 1), ("weigh", 0, 5), ("put", BAR, 2), ("drop", 0), ("put", CELL, 3), ("drop", 1)]
        for sheet in both(2, 2):
            for at in range(len(right) + 1):
                many = sum({"put": 1, "drop": -1, "weigh": 0}[operation[0]] for operation in right[:at])
                for operation, error in (
                    (("put", (0, 0, 4, 4), 1), InvalidBox), (("put", None, None), InvalidBox),
                    (("put", SQUARE, 0), InvalidNumber), (("put", SQUARE, True), InvalidNumber),
                    (("drop", many), InvalidIndex), (("drop", -1), InvalidIndex), (("drop", None), InvalidIndex),
                    (("weigh", many, 1), InvalidIndex), (("weigh", many, 0), InvalidIndex),
                    (("weigh", "0", 1), InvalidIndex),
                ):
                    wrong.hold_error(self, sheet.preview, (*right[:at], operation), error)
                    wrong.hold_error(self, sheet.preview, (*right[:at], operation, ("drop", 99)), error)
                    # The first one in their sequence is raised, but all must be calls.
                    wrong.hold_error(self, sheet.preview, (*right[:at], operation, ("drop",)), InvalidOperation)
                    self.hold_unchanged(sheet, [], [])
                if many:
                    wrong.hold_error(self, sheet.preview, (*right[:at], ("weigh", 0, 0)), InvalidNumber)

    def test_too_many_items_within(self):
        for sheet in both(2, 2):
            filled(sheet, *[(SQUARE, 1)] * 18)
            put = ("put", SQUARE, 1)
            self.assertEqual(sheet.preview(put, put), 60)
            wrong.hold_error(self, sheet.preview, (put, put, put), TooMany(20))
            self.assertEqual(sheet.preview(put, put, ("drop", 0), put), 60)
            self.assertEqual(len(sheet.load), 18)

    def test_values_that_are_no_calls(self):
        values = plain.strangers() + [
            0, 1, (), "put", ("put",), ("put", SQUARE), ("put", SQUARE, 1, 1), ["put", SQUARE, 1], ("drop",),
            ("drop", 0, 0), ["drop", 0], ("weigh",), ("weigh", 0), ("weigh", 0, 1, 1), ["weigh", 0, 1], ("undo",),
            ("log",), ("best",), ("runs", laced(2, 2)), ("preview", ("drop", 0)), ("Put", SQUARE, 1),
            ("put ", SQUARE, 1), (b"put", SQUARE, 1), (("put",), SQUARE, 1), (["put"], SQUARE, 1), ({}, 0), (None, 0),
            (True, 0), (1, 0), ("load", 0), ("", 0), (SQUARE, 1), (0, "drop"), ("put", (SQUARE, 1)),
            (("put", SQUARE, 1),), [("put", SQUARE, 1)], ("drop", 0, "weigh"), ("undo", 0),
        ]
        for sheet in both(2, 2) + [BudgetSheet(2, 2, 0)]:
            for value in values:
                wrong.hold_error(self, sheet.preview, (value,), InvalidOperation)
                wrong.hold_error(self, sheet.preview, (("put", SQUARE, 1), value), InvalidOperation)
                wrong.hold_error(self, sheet.preview, (value, ("put", SQUARE, 1)), InvalidOperation)
                wrong.hold_error(self, sheet.preview, (("put", None, 0), value), InvalidOperation)
                wrong.hold_error(self, sheet.preview, (("drop", 5), ("weigh", 5, 5), value), InvalidOperation)
                self.hold_unchanged(sheet, [], [])

    def test_kinds_of_the_answers(self):
        for sheet in both(2, 2):
            self.assertEqual([type(sheet.preview()), type(sheet.runs(laced(2, 2)))], [int, int])
            filled(sheet, (SQUARE, 1))
            self.assertEqual([type(sheet.preview()), type(sheet.runs(laced(2, 2)))], [int, int])
            self.assertEqual([type(part) for part in sheet.best()], [int, int, str])


class BudgetTest(unittest.TestCase):
    def test_at_the_total_and_one_below(self):
        for budget in (3, 4, 100):
            sheet = filled(BudgetSheet(2, 2, budget), (SQUARE, 1))
            self.assertEqual(sheet.load, [(SQUARE, 1)])
        for budget in (0, 1, 2):
            sheet = BudgetSheet(2, 2, budget)
            wrong.hold_error(self, sheet.put, (SQUARE, 1), OverBudget(3))
            wrong.hold_error(self, sheet.preview, (("put", SQUARE, 1),), OverBudget(3))
            self.assertEqual((sheet.load, sheet.log()), ([], []))
        sheet = filled(BudgetSheet(2, 2, 6), (SQUARE, 2))
        wrong.hold_error(self, sheet.weigh, (0, 3), OverBudget(9))
        wrong.hold_error(self, sheet.put, (CELL, 1), OverBudget(7))
        sheet.weigh(0, 1)
        sheet.put(CELL, 3)
        wrong.hold_error(self, sheet.put, (CELL, 1), OverBudget(7))
        self.assertEqual(sheet.load, [(SQUARE, 1), (CELL, 3)])

    def test_budgets_of_great_grids(self):
        box = (1, 1, LAST - 1, LAST - 1)
        total = best_layout(100, 100, [(box, 10 ** 30)])[0]
        filled(BudgetSheet(100, 100, total), (box, 10 ** 30))
        wrong.hold_error(self, BudgetSheet(100, 100, total - 1).put, (box, 10 ** 30), OverBudget(total))

    def test_own_errors_come_first(self):
        sheet = BudgetSheet(2, 2, 0)
        for operation, error in (
            (("put", (0, 0, 4, 4), 1), InvalidBox), (("put", SQUARE, 0), InvalidNumber), (("drop", 0), InvalidIndex),
            (("weigh", 0, 5), InvalidIndex),
        ):
            wrong.hold_error(self, getattr(sheet, operation[0]), operation[1:], error)
            wrong.hold_error(self, sheet.preview, (operation, ("put", SQUARE, 1)), error)
            wrong.hold_error(self, sheet.preview, (("put", SQUARE, 1), operation), OverBudget(3))
            wrong.hold_error(self, sheet.preview, (("put", SQUARE, 1), operation, None), InvalidOperation)
        full = filled(BudgetSheet(2, 2, 60), *[(SQUARE, 1)] * 20)
        wrong.hold_error(self, full.put, (SQUARE, 1), TooMany(20))
        wrong.hold_error(self, full.weigh, (0, 0), InvalidNumber)
        wrong.hold_error(self, full.weigh, (0, 2), OverBudget(63))
        full.drop(0)
        wrong.hold_error(self, full.put, (SQUARE, 2), OverBudget(63))
        full.put(SQUARE, 1)

    def test_each_call_of_a_preview_in_its_turn(self):
        sheet = filled(BudgetSheet(2, 2, 9), (SQUARE, 2))
        self.assertEqual(sheet.preview(("weigh", 0, 3)), 9)
        self.assertEqual(sheet.preview(("weigh", 0, 1), ("put", SQUARE, 2)), 9)
        # The total is above the budget in between, not at the end.
        wrong.hold_error(self, sheet.preview, (("put", SQUARE, 2), ("weigh", 0, 1)), OverBudget(12))
        wrong.hold_error(self, sheet.preview, (("put", SQUARE, 5), ("drop", 1)), OverBudget(21))
        wrong.hold_error(self, sheet.preview, (("weigh", 0, 3), ("weigh", 0, 4), ("weigh", 0, 5)), OverBudget(12))
        wrong.hold_error(self, sheet.preview, (("weigh", 0, 3), ("drop", 1), ("weigh", 0, 5)), InvalidIndex)
        self.assertEqual((sheet.load, sheet.log()), ([(SQUARE, 2)], [("put", SQUARE, 2)]))

    def test_undo_is_free(self):
        sheet = filled(BudgetSheet(2, 2, 9), (SQUARE, 3))
        sheet.drop(0)
        sheet.put(CELL, 9)
        wrong.hold_error(self, sheet.put, (CELL, 1), OverBudget(10))
        for load in ([], [(SQUARE, 3)], []):
            self.assertIsNone(sheet.undo())
            self.assertEqual(sheet.load, load)
        wrong.hold_error(self, sheet.undo, (), Nothing)

    def test_sequences_beside_a_list(self):
        chance = random.Random(94)
        for x_bits, y_bits in ((2, 2), (3, 2), (1, 4)):
            word = "x" * x_bits + "y" * y_bits
            for budget in (1, 10, 100, 10 ** 30):
                sheet, loads, log, refused = BudgetSheet(x_bits, y_bits, budget), [[]], [], 0
                for turn in range(80):
                    if log and chance.random() < 0.2:
                        sheet.undo()
                        loads.pop()
                        log.pop()
                    else:
                        operation = some_operation(chance, word, len(loads[-1]))
                        told = behind(loads[-1], operation)
                        total = least_runs(x_bits, y_bits, told)
                        if total > budget:
                            refused += 1
                            method = getattr(sheet, operation[0])
                            wrong.hold_error(self, method, operation[1:], OverBudget(total))
                            wrong.hold_error(self, sheet.preview, (operation,), OverBudget(total))
                        else:
                            self.assertEqual(sheet.preview(operation), total)
                            self.assertIsNone(call(sheet, operation))
                            loads.append(told)
                            log.append(operation)
                    self.assertEqual((sheet.load, sheet.log()), (loads[-1], log))
                    self.assertEqual(sheet.budget, budget)
                self.assertGreater(refused, 0)

    def test_how_long_an_answer_takes(self):
        chance = random.Random(95)
        load = plain.some_load(chance, "xy" * 100, 20)
        sheet = filled(BudgetSheet(100, 100, HIGH), *load[:8])
        begin = time.process_time()
        sheet.preview(*[("put", box, weight) for box, weight in load[8:]])
        self.assertLess(time.process_time() - begin, 10)


class OperationsTest(unittest.TestCase):
    def test_a_sheet_goes_on_after_any_error(self):
        for sheet in both(2, 2):
            for operation in (("put", None, None), ("drop", None), ("weigh", None, None)):
                with self.assertRaises(LaceError):
                    call(sheet, operation)
            filled(sheet, (SQUARE, 1))
            self.assertEqual(sheet.best(), (3, 2, "xxyy"))


if __name__ == "__main__":
    unittest.main()
