"""Holds what one section tells against what the others tell of the same."""

import copy
import importlib
import random
import unittest

from lacekeys.alike import count_ahead, parting_box
from lacekeys.best import best_blocks, best_layout, best_page, load_blocks, load_runs, nth_best, worst_layout
from lacekeys.blocks import block_of, block_sizes, count_blocks, count_pages
from lacekeys.console import Console
from lacekeys.errors import InvalidIndex, LaceError
from lacekeys.layouts import Layout, columns, laced, rows, tiled
from lacekeys.lengths import gap_lengths, nth_run, run_lengths, run_of
from lacekeys.places import best_anywhere, fewest_runs, mean_runs, most_runs, total_runs
from lacekeys.ranks import cell_at, last_cell, next_cell, rank
from lacekeys.runs import count_runs, ends, saved
from lacekeys.scans import fewest_read, fewest_scans, least_cost
from lacekeys.sheets import BudgetSheet, LoadSheet
from lacekeys.texts import read_load, show_load
from lacekeys.unions import cells_of, runs_of
from tests import great, plain

SQUARE, BAR = (0, 0, 2, 2), (1, 0, 2, 3)


def all_calls():
    """Return tuples (function, arguments) of each function of the interface."""
    z, load = Layout("yxyx"), [(SQUARE, 1), (BAR, 2)]
    return [
        (rows, (2, 2)), (columns, (2, 2)), (laced, (2, 3)), (tiled, (3, 3, 1, 1)), (count_runs, (z, SQUARE)),
        (saved, (z, SQUARE)), (ends, (z, SQUARE)), (run_lengths, (z, BAR)), (gap_lengths, (z, BAR)),
        (nth_run, (z, BAR, 4)), (run_of, (z, BAR, (2, 0))), (fewest_read, (z, BAR, 2)), (fewest_scans, (z, BAR, 11)),
        (least_cost, (z, BAR, 3, 1)), (count_blocks, (z, SQUARE)), (block_sizes, (z, SQUARE)),
        (block_of, (z, SQUARE, (1, 2))), (count_pages, (z, SQUARE, 1)), (rank, (z, BAR, 9)), (cell_at, (z, BAR, 4)),
        (next_cell, (z, BAR, 7)), (last_cell, (z, BAR, 8)), (load_runs, (z, load)), (load_blocks, (z, load)),
        (best_layout, (2, 2, load)), (worst_layout, (2, 2, load)), (nth_best, (2, 2, load, 0)),
        (best_blocks, (2, 2, load)), (best_page, (2, 2, load, 2)), (total_runs, (z, 2, 2)), (mean_runs, (z, 2, 2)),
        (fewest_runs, (z, 2, 2)), (most_runs, (z, 2, 2)), (best_anywhere, (2, 2, 2, 2)), (cells_of, (z, [SQUARE, BAR])),
        (runs_of, (z, [SQUARE, BAR])), (parting_box, (z, rows(2, 2))), (count_ahead, (2, 2, (1, 0), (0, 1))),
        (show_load, (2, 2, load)), (read_load, (2, 2, "1: 0 0 2 2; 2: 1 0 2 3")),
    ]


def kinds(value):
    """Return the kinds of a value and of what is in it."""
    if isinstance(value, (list, tuple)):
        return {type(value)}.union(*[kinds(part) for part in value])
    return {type(value)}


class PointsTest(unittest.TestCase):
    def test_arguments_stay_and_results_are_equal(self):
        for call, arguments in all_calls():
            with self.subTest(call.__name__):
                before = copy.deepcopy(arguments)
                first = call(*arguments)
                self.assertEqual(call(*arguments), first)
                self.assertEqual(call(*before), first)
                self.assertTrue(arguments == before)

    def test_kinds_of_the_answers(self):
        for call, arguments in all_calls():
            with self.subTest(call.__name__):
                self.assertLessEqual(kinds(call(*arguments)), {int, str, tuple, list, Layout})

    def test_returned_lists_are_new(self):
        for call, arguments in all_calls():
            first = call(*arguments)
            if isinstance(first, list):
                told = list(first)
                first.clear()
                self.assertEqual(call(*arguments), told)
                self.assertFalse(any(isinstance(item, list) for item in told))

    def test_no_answer_is_an_argument(self):
        load = read_load(2, 2, "1: 0 0 2 2")
        sheet = LoadSheet(2, 2)
        sheet.put(*load[0])
        load.clear()
        self.assertEqual(sheet.load, [(SQUARE, 1)])

    def test_errors_are_of_one_class_alone(self):
        module = importlib.import_module("lacekeys.errors")
        classes = [value for value in vars(module).values() if isinstance(value, type)]
        self.assertEqual(len(classes), 20)
        for one in classes:
            self.assertTrue(issubclass(one, LaceError) and issubclass(one, ValueError))
            for two in classes:
                self.assertEqual(issubclass(one, two), one is two or two is LaceError)


class AgreementTest(unittest.TestCase):
    def cases(self, chance):
        """Return words of all sizes, some of one kind of letter."""
        found = [plain.some_word(chance, n, m) for n, m in ((2, 2), (3, 4), (5, 1), (30, 40), (100, 100), (100, 7))]
        return found + ["x", "yyy", "x" * 100, "y" * 100]

    def test_loads_and_their_boxes(self):
        chance = random.Random(111)
        for word in self.cases(chance):
            layout, load = Layout(word), plain.some_load(chance, word, 4)
            self.assertEqual(load_runs(layout, load), sum(weight * count_runs(layout, box) for box, weight in load))
            self.assertEqual(load_blocks(layout, load), sum(weight * count_blocks(layout, box) for box, weight in load))
            for box, weight in load:
                self.assertEqual(load_runs(layout, [(box, 1)]), count_runs(layout, box))
                self.assertEqual(sum(many for _, many in run_lengths(layout, box)), count_runs(layout, box))
                self.assertEqual(great.area(box) - sum(saved(layout, box)), count_runs(layout, box))

    def test_boxes_alone_and_together(self):
        chance = random.Random(112)
        for word in self.cases(chance):
            layout = Layout(word)
            for _ in range(3):
                box, other = plain.some_box(chance, word), plain.some_box(chance, word)
                self.assertEqual(runs_of(layout, [box]), count_runs(layout, box))
                common = great.common_box(box, other)
                cells = great.area(box) + great.area(other) - (great.area(common) if common else 0)
                self.assertEqual(cells_of(layout, [box, other]), cells)
                self.assertLessEqual(runs_of(layout, [box, other]), count_runs(layout, box) + count_runs(layout, other))

    def test_blocks_of_a_box_together_are_the_box(self):
        chance = random.Random(113)
        for word in ("yxyxyx", "xxyyyx"):
            layout = Layout(word)
            for _ in range(20):
                box = plain.some_box(chance, word)
                cells = [cell_at(layout, box, index) for index in range(great.area(box))]
                blocks = sorted({block_of(layout, box, cell) for cell in cells})
                self.assertEqual(len(blocks), count_blocks(layout, box))
                runs = [nth_run(layout, box, index) for index in range(count_runs(layout, box))]
                joined = plain.stretches([key for first, last in blocks for key in range(first, last + 1)])
                self.assertEqual(joined, runs)
                # A block is a box, and one that touches it by its keys makes one run with it.
                parts = [layout.cell(first) + layout.cell(last) for first, last in blocks]
                for one, two in zip(parts, parts[1:]):
                    joins = layout.key(one[2:]) + 1 == layout.key(two[:2])
                    self.assertEqual(runs_of(layout, [one, two]), 1 if joins else 2)

    def test_places_and_single_boxes(self):
        chance = random.Random(114)
        for word in ("yxyx", "xyyxy", "xxxy", "yyyy"):
            layout = Layout(word)
            x_end, y_end = 2 ** layout.x_bits, 2 ** layout.y_bits
            for width in range(1, x_end + 1):
                height = chance.randint(1, y_end)
                places = [(x, y) for x in range(x_end - width + 1) for y in range(y_end - height + 1)]
                runs = {(x, y): count_runs(layout, (x, y, x + width - 1, y + height - 1)) for x, y in places}
                self.assertEqual(total_runs(layout, width, height), sum(runs.values()))
                top, bottom = mean_runs(layout, width, height)
                self.assertEqual(top * len(places), sum(runs.values()) * bottom)
                least, many, place = fewest_runs(layout, width, height)
                self.assertEqual((runs[place], list(runs.values()).count(least)), (min(runs.values()), many))
                most, many, place = most_runs(layout, width, height)
                self.assertEqual((runs[place], list(runs.values()).count(most)), (max(runs.values()), many))

    def test_all_places_as_a_load(self):
        for x_bits, y_bits, width, height in ((2, 2, 2, 2), (2, 2, 3, 2), (3, 1, 4, 1), (1, 3, 2, 5), (2, 2, 1, 1)):
            places = [(x, y) for x in range(2 ** x_bits - width + 1) for y in range(2 ** y_bits - height + 1)]
            load = [((x, y, x + width - 1, y + height - 1), 1) for x, y in places]
            self.assertEqual(best_anywhere(x_bits, y_bits, width, height), best_layout(x_bits, y_bits, load))
            for word in plain.words(x_bits, y_bits):
                self.assertEqual(total_runs(Layout(word), width, height), load_runs(Layout(word), load))

    def test_best_layouts_and_the_layouts(self):
        chance = random.Random(115)
        for word in self.cases(chance):
            layout, load = Layout(word), plain.some_load(chance, word, 3)
            best, worst = [call(layout.x_bits, layout.y_bits, load) for call in (best_layout, worst_layout)]
            self.assertTrue(best[0] <= load_runs(layout, load) <= worst[0])
            self.assertEqual(load_runs(Layout(best[2]), load), best[0])
            self.assertEqual(nth_best(layout.x_bits, layout.y_bits, load, 0), best[2])
            with self.assertRaises(InvalidIndex):
                nth_best(layout.x_bits, layout.y_bits, load, best[1])
            fewest = best_blocks(layout.x_bits, layout.y_bits, load)
            self.assertEqual(load_blocks(Layout(fewest[2]), load), fewest[0])
            for bits in (0, len(word) // 2, len(word)):
                pages = sum(weight * count_pages(layout, box, bits) for box, weight in load)
                self.assertLessEqual(best_page(layout.x_bits, layout.y_bits, load, bits)[0], pages)

    def test_a_parting_box_is_best_by_one_of_the_layouts(self):
        for one, two in (("yxyx", "yyxx"), ("xxyy", "yyxx"), ("xyxyx", "xyyxx"), ("yx" * 100, "x" * 100 + "y" * 100)):
            box = parting_box(Layout(one), Layout(two))
            told = sorted(count_runs(Layout(word), box) for word in (one, two))
            self.assertEqual(told, [1, 2])
            self.assertEqual(best_layout(one.count("x"), one.count("y"), [(box, 1)])[0], 1)

    def test_count_ahead_and_the_keys(self):
        chance = random.Random(116)
        for x_bits, y_bits in ((3, 3), (1, 6), (4, 2)):
            layouts = [Layout(word) for word in plain.words(x_bits, y_bits)]
            for _ in range(30):
                cell, other = [(chance.randrange(2 ** x_bits), chance.randrange(2 ** y_bits)) for _ in range(2)]
                ahead = sum(layout.key(cell) < layout.key(other) for layout in layouts)
                self.assertEqual(count_ahead(x_bits, y_bits, cell, other), ahead)

    def test_sheets_texts_and_consoles(self):
        chance = random.Random(117)
        for word in self.cases(chance):
            layout, load = Layout(word), plain.some_load(chance, word, 3)
            n, m = layout.x_bits, layout.y_bits
            sheet, limited, console = LoadSheet(n, m), BudgetSheet(n, m, best_layout(n, m, load)[0]), Console()
            console.execute(f"grid {n} {m}")
            console.execute(f"layout {word}")
            for box, weight in load:
                sheet.put(box, weight)
                limited.put(box, weight)
                console.execute("put {} {} {} {} {}".format(*box, weight))
            self.assertEqual(read_load(n, m, console.execute("show")), load)
            self.assertEqual([sheet.load, limited.load], [load, load])
            self.assertEqual([sheet.best(), limited.best()], [best_layout(n, m, load)] * 2)
            self.assertEqual(sheet.preview(), best_layout(n, m, load)[0])
            self.assertEqual(console.execute("best").split(" ")[2], sheet.best()[2])
            self.assertEqual([sheet.runs(layout), int(console.execute("total"))], [load_runs(layout, load)] * 2)
            other = LoadSheet(n, m)
            for operation in sheet.log():
                getattr(other, operation[0])(*operation[1:])
            self.assertTrue(other == sheet)
            self.assertEqual(LoadSheet(n, m).preview(*sheet.log()), sheet.best()[0])


if __name__ == "__main__":
    unittest.main()
