import random
import time
import unittest

from lacekeys.errors import InvalidBox, InvalidCell, InvalidIndex, InvalidLayout
from lacekeys.halves import count_parts
from lacekeys.layouts import Layout, columns, laced, rows
from lacekeys.lengths import gap_lengths, nth_run, run_lengths, run_of
from lacekeys.runs import count_runs, ends
from tests import great, plain, wrong

BAR = (1, 0, 2, 3)
LAST = 2 ** 100 - 1
SMALL_BOXES = ((0, 0, 2, 2), (1, 0, 2, 3), (1, 2, 6, 4), (0, 3, 7, 7), (5, 5, 5, 5), (0, 0, 7, 7), (3, 1, 4, 6))


class ExampleTest(unittest.TestCase):
    def test_example(self):
        z = Layout("yxyx")
        told = [run_lengths(z, BAR), gap_lengths(z, BAR), nth_run(z, BAR, 4), run_of(z, BAR, (2, 0))]
        told.append(gap_lengths(z, (0, 0, 3, 1)))
        self.assertEqual(told, [[(1, 4), (2, 2)], [(1, 4), (2, 1)], (11, 12), (3, 4), []])

    def test_runs_of_the_document(self):
        z = Layout("yxyx")
        square = (0, 0, 2, 2)
        self.assertEqual([nth_run(z, square, index) for index in range(4)], [(0, 4), (6, 6), (8, 9), (12, 12)])
        self.assertEqual([run_lengths(z, square), gap_lengths(z, square)], [[(1, 2), (2, 1), (5, 1)], [(1, 2), (2, 1)]])
        told = [nth_run(z, BAR, index) for index in range(6)]
        self.assertEqual(told, [(1, 1), (3, 4), (6, 6), (9, 9), (11, 12), (14, 14)])


class SmallGridsTest(unittest.TestCase):
    def hold_lengths(self, word, keys, box):
        spans = plain.stretches(plain.keys_of(keys, box))
        layout = Layout(word)
        self.assertEqual(run_lengths(layout, box), plain.lengths_of(spans), (word, box))
        self.assertEqual(gap_lengths(layout, box), plain.lengths_of(plain.gaps_of(spans)), (word, box))
        return spans

    def hold_runs(self, word, keys, box):
        spans = self.hold_lengths(word, keys, box)
        layout = Layout(word)
        self.assertEqual([nth_run(layout, box, index) for index in range(len(spans))], spans, (word, box))
        for cell, key in keys.items():
            if plain.is_in(cell, box):
                span = [(first, last) for first, last in spans if first <= key <= last]
                self.assertEqual([run_of(layout, box, cell)], span, (word, box, cell))

    def test_all_boxes_of_all_words_of_a_few_letters(self):
        for word, keys, box in plain.all_cases(plain.small_words(4)):
            self.hold_runs(word, keys, box)

    def test_all_boxes_of_some_words(self):
        given = ["yxyxyx", "yyyxxx", "xxxyyy", "xyyxxy", "xxxxxx", "yyyyyy", "xxxxyx", "yxyyyy"]
        for word, keys, box in plain.all_cases(given):
            self.hold_lengths(word, keys, box)

    def test_some_boxes_of_many_words(self):
        chance = random.Random(11)
        given = plain.words(3, 3) + plain.words(4, 4) + plain.words(5, 2) + plain.words(1, 6)
        for word, keys, box in plain.some_cases(chance, given, 2):
            self.hold_runs(word, keys, box)


class GreatGridsTest(unittest.TestCase):
    def hold_run(self, word, box, run, index=None):
        """Hold a run of a box against its sides, the cells within, and the runs ahead of it."""
        first, last = run
        self.assertTrue(plain.is_in(great.plain_cell(word, first), box))
        self.assertTrue(plain.is_in(great.plain_cell(word, last), box))
        if first > 0:
            self.assertFalse(plain.is_in(great.plain_cell(word, first - 1), box))
        if last < 2 ** len(word) - 1:
            self.assertFalse(plain.is_in(great.plain_cell(word, last + 1), box))
        ahead = great.cells_ahead(word, box, first)
        self.assertEqual(great.cells_ahead(word, box, last) - ahead, last - first)
        if index is not None:
            self.assertEqual(runs_ahead(word, box, first), index)

    def test_halves_tell_the_same_as_a_listing(self):
        for word, keys, box in plain.all_cases(("yxyx", "xyyx", "xxy", "yyxx")):
            spans = plain.stretches(plain.keys_of(keys, box))
            told = (plain.lengths_of(spans), plain.lengths_of(plain.gaps_of(spans)))
            self.assertEqual(great.halved_lengths(word, box), told)
            self.assertEqual([runs_ahead(word, box, first) for first, _ in spans], list(range(len(spans))))

    def test_lengths_of_great_boxes(self):
        for word, box in great.great_cases(random.Random(12)):
            layout = Layout(word)
            runs, gaps = run_lengths(layout, box), gap_lengths(layout, box)
            self.assertEqual((runs, gaps), great.halved_lengths(word, box), (word, box))
            self.assertEqual(sum(many for _, many in runs), count_runs(layout, box))
            self.assertEqual(sum(many for _, many in gaps), count_runs(layout, box) - 1)
            self.assertEqual(sum(length * many for length, many in runs), great.area(box))
            first, last = ends(layout, box)
            self.assertEqual(sum(length * many for length, many in runs + gaps), last - first + 1)

    def test_at_most_eight_kinds_of_blocks_at_each_letter(self):
        for word, box in great.great_cases(random.Random(15)):
            levels = count_parts(word, box)
            self.assertEqual(len(levels), len(word))
            self.assertLessEqual(max(len(level) for level in levels), 8, (word, box))

    def test_runs_of_great_boxes(self):
        chance = random.Random(13)
        for word, box in great.great_cases(chance)[1::2]:
            layout = Layout(word)
            runs = count_runs(layout, box)
            for index in sorted({0, runs // 3, chance.randrange(runs), runs - 1}):
                run = nth_run(layout, box, index)
                self.hold_run(word, box, run, index)
                self.assertEqual(run_of(layout, box, layout.cell(run[0])), run)
                self.assertEqual(run_of(layout, box, layout.cell(run[1])), run)
            self.assertEqual(nth_run(layout, box, 0)[0], ends(layout, box)[0])
            self.assertEqual(nth_run(layout, box, runs - 1)[1], ends(layout, box)[1])
            for _ in range(3):
                cell = plain.some_cell(chance, box)
                run = run_of(layout, box, cell)
                self.assertTrue(run[0] <= plain.plain_key(word, cell) <= run[1])
                self.hold_run(word, box, run)

    def test_letters_behind_scale_the_runs_and_letters_in_front_shift_them(self):
        for word, box, bits, begin, small, small_box in great.scaled_cases(("xyyxxy", "yxyxyx"), SMALL_BOXES):
            spans = plain.stretches(plain.keys_of(plain.listing(small), small_box))
            layout = Layout(word)
            scaled = [(length << bits, many) for length, many in plain.lengths_of(spans)]
            self.assertEqual(run_lengths(layout, box), scaled)
            scaled = [(length << bits, many) for length, many in plain.lengths_of(plain.gaps_of(spans))]
            self.assertEqual(gap_lengths(layout, box), scaled)
            for index, (first, last) in enumerate(spans):
                run = (begin + (first << bits), begin + ((last + 1) << bits) - 1)
                self.assertEqual(nth_run(layout, box, index), run)
                self.assertEqual(run_of(layout, box, layout.cell(run[0] + 1 if bits else run[0])), run)

    def test_whole_grids(self):
        for word in ("yx" * 100, "y" * 100 + "x" * 100, "x" * 100, "y" * 100, "x", "y", "xy" * 3):
            layout, box = Layout(word), plain.whole_box(word)
            end = 2 ** len(word)
            self.assertEqual((run_lengths(layout, box), gap_lengths(layout, box)), ([(end, 1)], []))
            self.assertEqual(nth_run(layout, box, 0), (0, end - 1))
            for key in (0, end // 2, end - 1):
                self.assertEqual(run_of(layout, box, layout.cell(key)), (0, end - 1))

    def test_boxes_of_one_cell(self):
        for word in ("yx" * 100, "y" * 100 + "x" * 100, "x" * 100, "y" * 100, "x", "y", "xy" * 3):
            layout = Layout(word)
            end = 2 ** len(word)
            for key in (0, end // 3, end // 2, end - 1):
                cell = layout.cell(key)
                self.assertEqual(run_lengths(layout, cell + cell), [(1, 1)])
                self.assertEqual(gap_lengths(layout, cell + cell), [])
                self.assertEqual(nth_run(layout, cell + cell, 0), (key, key))
                self.assertEqual(run_of(layout, cell + cell, cell), (key, key))

    def test_rows_and_columns(self):
        wide, high, end = 10 ** 30 - 4, 10 ** 29 - 6, 2 ** 100
        box = (5, 7, 10 ** 30, 10 ** 29)
        self.assertEqual(run_lengths(rows(100, 100), box), [(wide, high)])
        self.assertEqual(gap_lengths(rows(100, 100), box), [(end - wide, high - 1)])
        row = end * (10 ** 28 + 7)
        self.assertEqual(nth_run(rows(100, 100), box, 10 ** 28), (row + 5, row + 10 ** 30))
        self.assertEqual(run_of(rows(100, 100), box, (9, 9)), (end * 9 + 5, end * 9 + 10 ** 30))
        self.assertEqual(run_lengths(columns(100, 100), box), [(high, wide)])
        self.assertEqual(gap_lengths(columns(100, 100), box), [(end - high, wide - 1)])
        self.assertEqual(run_of(columns(100, 100), box, (9, 9)), (end * 9 + 7, end * 9 + 10 ** 29))
        self.assertEqual(run_lengths(rows(100, 100), (0, 5, LAST, 10 ** 30)), [(end * (10 ** 30 - 4), 1)])

    def test_words_of_one_kind_of_letter(self):
        for low, high in ((0, 0), (0, LAST), (1, LAST - 1), (10 ** 20, 10 ** 30), (LAST, LAST)):
            for layout, box in ((Layout("x" * 100), (low, 0, high, 0)), (Layout("y" * 100), (0, low, 0, high))):
                self.assertEqual(run_lengths(layout, box), [(high - low + 1, 1)])
                self.assertEqual(gap_lengths(layout, box), [])
                self.assertEqual(nth_run(layout, box, 0), (low, high))
                for cell in (box[:2], box[2:]):
                    self.assertEqual(run_of(layout, box, cell), (low, high))

    def test_how_long_an_answer_takes(self):
        chance = random.Random(14)
        for word in ("yx" * 100, "xy" * 100, "xxyy" * 50, plain.some_word(chance, 100, 100)):
            layout, box = Layout(word), plain.some_box(chance, word)
            calls = [(run_lengths, ()), (gap_lengths, ()), (nth_run, (10 ** 20,)), (run_of, (box[:2],))]
            for call, more in calls:
                begin = time.process_time()
                call(layout, box, *more)
                self.assertLess(time.process_time() - begin, 1, (call, word))


def runs_ahead(word, box, key):
    """Return how many runs of a box are in the keys less than one that begins a run, or is no key of the box."""
    parts = great.parts_ahead(word, box, key)
    runs = sum(count_runs(Layout(word), part) for part in parts)
    for one, two in zip(parts, parts[1:]):
        # The greatest key of a part is at its last corner, the least key of the next one at its first corner.
        runs -= plain.plain_key(word, one[2:]) + 1 == plain.plain_key(word, two[:2])
    return runs


class ArgumentsTest(unittest.TestCase):
    def test_lists_are_new_each_time(self):
        layout = laced(2, 2)
        for call, answer in ((run_lengths, [(1, 4), (2, 2)]), (gap_lengths, [(1, 4), (2, 1)])):
            first = call(layout, BAR)
            self.assertIs(type(first), list)
            first[0] = None
            first.append(1)
            self.assertEqual(call(layout, BAR), answer)
        one = gap_lengths(layout, (0, 0, 0, 0))
        one.append(1)
        self.assertEqual(gap_lengths(layout, (0, 0, 0, 0)), [])

    def test_kinds_of_the_answers(self):
        layout = laced(2, 2)
        for told in run_lengths(layout, BAR) + gap_lengths(layout, BAR) + [nth_run(layout, BAR, 0)]:
            self.assertIs(type(told), tuple)
            self.assertEqual([type(number) for number in told], [int, int])
        self.assertIs(type(run_of(layout, BAR, (1, 0))), tuple)

    def test_what_is_passed_stays_as_it_is(self):
        layout, box, cell = laced(2, 2), (1, 0, 2, 3), (2, 1)
        for call, more in ((run_lengths, ()), (gap_lengths, ()), (nth_run, (1,)), (run_of, (cell,))):
            self.assertEqual(call(layout, box, *more), call(layout, box, *more))
        self.assertTrue(layout == Layout("yxyx"))
        self.assertEqual((box, cell), ((1, 0, 2, 3), (2, 1)))

    def test_wrong_arguments_of_the_lists(self):
        for call in (run_lengths, gap_lengths):
            for word in ("x", "y", "yxyx", "xxxy", "xy" * 100):
                layout = Layout(word)
                boxes = (InvalidBox, plain.wrong_boxes(layout.x_bits, layout.y_bits))
                wrong.hold_errors(self, call, (layout, (0, 0, 0, 0)), [(InvalidLayout, plain.wrong_layouts()), boxes])

    def test_wrong_arguments_of_nth_run(self):
        end = 2 ** 200
        for layout, box, runs, last in (
            (laced(2, 2), BAR, 6, (14, 14)), (rows(100, 100), (LAST - 1, 0, LAST, LAST), 2 ** 100, (end - 2, end - 1)),
        ):
            self.assertEqual(nth_run(layout, box, runs - 1), last)
            layouts = (InvalidLayout, plain.wrong_layouts())
            boxes = (InvalidBox, plain.wrong_boxes(layout.x_bits, layout.y_bits))
            indexes = (InvalidIndex, plain.wrong_integers(0, runs - 1))
            wrong.hold_errors(self, nth_run, (layout, box, 0), [layouts, boxes, indexes])

    def test_wrong_arguments_of_run_of(self):
        beside = [(0, 0), (3, 0), (0, 3), (3, 3), (0, 2), (3, 1)]
        for layout, box, outside in (
            (laced(2, 2), BAR, beside), (laced(2, 2), (0, 1, 3, 2), [(0, 0), (0, 3), (3, 0), (3, 3), (2, 0), (1, 3)]),
            (laced(100, 100), (1, 1, LAST - 1, LAST - 1), [(0, 1), (1, 0), (LAST, 1), (1, LAST), (0, LAST), (LAST, 0)]),
        ):
            layouts = (InvalidLayout, plain.wrong_layouts())
            boxes = (InvalidBox, plain.wrong_boxes(layout.x_bits, layout.y_bits))
            cells = (InvalidCell, plain.wrong_cells(layout.x_bits, layout.y_bits) + outside)
            wrong.hold_errors(self, run_of, (layout, box, (1, 1)), [layouts, boxes, cells])


if __name__ == "__main__":
    unittest.main()
