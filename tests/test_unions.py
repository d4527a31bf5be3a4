import random
import time
import unittest
from itertools import permutations

from lacekeys.errors import InvalidBoxes, InvalidLayout
from lacekeys.layouts import Layout, columns, laced, rows
from lacekeys.runs import count_runs
from lacekeys.unions import cells_of, runs_of
from tests import great, plain, wrong

LAST = 2 ** 100 - 1


class ExampleTest(unittest.TestCase):
    def test_example(self):
        z = Layout("yxyx")
        told = [cells_of(z, [(0, 0, 1, 1), (1, 1, 2, 2)]), runs_of(z, [(0, 0, 1, 1), (1, 1, 2, 2)])]
        told.append(runs_of(z, [(0, 0, 1, 0), (0, 1, 1, 1)]))
        self.assertEqual(told, [7, 4, 1])


class SmallGridsTest(unittest.TestCase):
    def hold(self, word, keys, boxes):
        cells = plain.cells_of_boxes(boxes)
        layout = Layout(word)
        self.assertEqual(cells_of(layout, boxes), len(cells), (word, boxes))
        runs = plain.stretches(sorted(keys[cell] for cell in cells))
        self.assertEqual(runs_of(layout, boxes), len(runs), (word, boxes))

    def test_all_pairs_of_boxes_of_some_words(self):
        for word in plain.small_words(3) + ["yxyx", "xxyy", "xyyx"]:
            keys, boxes = plain.listing(word), plain.all_boxes(word.count("x"), word.count("y"))
            for one in boxes:
                self.hold(word, keys, [one])
                for two in boxes:
                    self.hold(word, keys, [one, two])

    def test_all_triples_of_boxes_of_the_smallest_grids(self):
        for word in ("x", "y", "xy", "yx", "xx", "yy"):
            keys, boxes = plain.listing(word), plain.all_boxes(word.count("x"), word.count("y"))
            for one in boxes:
                for two in boxes:
                    for three in boxes:
                        self.hold(word, keys, [one, two, three])

    def test_some_boxes_of_many_words(self):
        chance = random.Random(61)
        for word in plain.words(3, 3) + plain.words(4, 2) + plain.words(1, 5) + ["xxxxxx", "yyyyyy", "yxyxyxyx"]:
            keys = plain.listing(word)
            for many in (1, 2, 2, 3, 3, 3):
                self.hold(word, keys, [plain.some_box(chance, word) for _ in range(many)])

    def test_boxes_within_each_other_equal_ones_and_ones_that_touch(self):
        given = [
            [(0, 0, 7, 7), (1, 1, 6, 6), (2, 3, 4, 5)], [(1, 1, 6, 6), (1, 1, 6, 6)], [(2, 2, 2, 2)] * 3,
            [(1, 1, 6, 6), (1, 1, 6, 6), (0, 3, 7, 3)], [(0, 0, 3, 7), (4, 0, 7, 7)], [(0, 0, 7, 3), (0, 4, 7, 7)],
            [(0, 0, 1, 1), (2, 2, 3, 3), (4, 4, 5, 5)], [(0, 0, 0, 0), (7, 7, 7, 7)], [(0, 3, 7, 4), (3, 0, 4, 7)],
            [(0, 0, 3, 3), (4, 0, 7, 3), (0, 4, 3, 7)], [(3, 3, 3, 3), (4, 4, 4, 4), (3, 4, 3, 4)],
            [(1, 0, 1, 7), (3, 0, 3, 7), (5, 0, 5, 7)], [(0, 0, 4, 4), (2, 2, 6, 6), (3, 3, 7, 7)],
        ]
        for word in ("yxyxyx", "xyxyxy", "xxxyyy", "yyyxxx", "xyyxxy"):
            keys = plain.listing(word)
            for boxes in given:
                self.hold(word, keys, boxes)


class GreatGridsTest(unittest.TestCase):
    def given(self, chance, word):
        """Return lists of two or three boxes of all kinds."""
        one, two, three = [plain.some_box(chance, word) for _ in range(3)]
        whole = plain.whole_box(word)
        x1, y1, x2, y2 = one
        inner = (x1 + (x2 - x1) // 3, y1 + (y2 - y1) // 3, x2 - (x2 - x1) // 3, y2 - (y2 - y1) // 5)
        beside = (min(x2 + 1, whole[2]), y1, whole[2], y2)
        over = (x1, min(y2 + 1, whole[3]), x2, whole[3])
        last = whole[2:] * 2
        return [
            [one], [one, two], [one, two, three], [one, one], [one, two, one], [one, inner], [two, one, inner],
            [one, beside], [one, beside, over], [one, whole], [(0, 0, 0, 0), last], [one, (0, 0, 0, 0), last],
            [inner, (x1, y1, x1, y1), (x2, y2, x2, y2)], [(0, y1, whole[2], y2), (x1, 0, x2, whole[3])],
            [(0, 0) + one[2:], one[:2] + whole[2:], three],
        ]

    def test_halves_tell_the_same_as_a_listing(self):
        chance = random.Random(62)
        for word in ("yxyxyx", "xxyyy", "xxxx"):
            keys = plain.listing(word)
            for boxes in self.given(chance, word):
                cells = plain.cells_of_boxes(boxes)
                runs = plain.stretches(sorted(keys[cell] for cell in cells))
                self.assertEqual(great.halved_union(word, boxes), (len(cells), len(runs)), boxes)

    def test_great_boxes(self):
        chance = random.Random(63)
        words = ["yx" * 100, "y" * 100 + "x" * 100, "x" * 100 + "y" * 100, plain.some_word(chance, 100, 100)]
        for word in words + [plain.some_word(chance, 7, 100), "x" * 100, "y" * 100]:
            layout = Layout(word)
            for boxes in self.given(chance, word):
                self.assertEqual((cells_of(layout, boxes), runs_of(layout, boxes)), great.halved_union(word, boxes))

    def test_sequence_of_the_boxes_does_not_matter(self):
        chance = random.Random(64)
        layout = laced(100, 100)
        for boxes in self.given(chance, layout.word):
            told = {(cells_of(layout, list(one)), runs_of(layout, list(one))) for one in permutations(boxes)}
            self.assertEqual(len(told), 1)

    def test_one_box_is_what_runs_tell(self):
        for word, box in great.great_cases(random.Random(65))[::2]:
            for boxes in ([box], [box] * 2, [box] * 3):
                self.assertEqual(runs_of(Layout(word), boxes), count_runs(Layout(word), box))
                self.assertEqual(cells_of(Layout(word), boxes), great.area(box))

    def test_boxes_that_touch_by_their_keys_alone(self):
        # The last cell of a row and the first one of the next row lie far off, but their keys follow one another.
        self.assertEqual(runs_of(rows(100, 100), [(LAST, 5, LAST, 5), (0, 6, 0, 6)]), 1)
        self.assertEqual(runs_of(columns(100, 100), [(LAST, 5, LAST, 5), (0, 6, 0, 6)]), 2)
        self.assertEqual(runs_of(columns(100, 100), [(5, LAST, 5, LAST), (6, 0, 6, 0)]), 1)
        # Rows that begin and end at the sides make one run each with the next one.
        self.assertEqual(runs_of(rows(100, 100), [(7, 0, LAST, LAST), (0, 0, 6, LAST)]), 1)
        boxes = [(8, 0, LAST, LAST), (0, 0, 6, LAST)]
        self.assertEqual(runs_of(rows(100, 100), boxes), 2 ** 100 + 1)
        self.assertEqual(cells_of(rows(100, 100), boxes), 2 ** 100 * LAST)
        # Each cell between them joins two runs.
        self.assertEqual(runs_of(rows(100, 100), boxes + [(7, 3, 7, 10 ** 30)]), 2 ** 100 + 1 - (10 ** 30 - 2))

    def test_how_long_an_answer_takes(self):
        chance = random.Random(66)
        for word in ("yx" * 100, "xxyy" * 50, plain.some_word(chance, 100, 100)):
            for boxes in self.given(chance, word):
                for call in (cells_of, runs_of):
                    begin = time.process_time()
                    call(Layout(word), boxes)
                    self.assertLess(time.process_time() - begin, 1, boxes)


class ArgumentsTest(unittest.TestCase):
    def test_wrong_arguments(self):
        for call in (cells_of, runs_of):
            for layout in (laced(2, 2), laced(100, 100), Layout("x"), Layout("yyy")):
                values = plain.wrong_boxes(layout.x_bits, layout.y_bits)
                told = plain.wrong_lists((0, 0, 0, 0), values, 3)
                boxes = [(InvalidBoxes(item), [value]) for value, item in told]
                right = (layout, [(0, 0, 0, 0)])
                wrong.hold_errors(self, call, right, [(InvalidLayout, plain.wrong_layouts()), boxes])

    def test_what_is_passed_stays_as_it_is(self):
        layout, boxes = laced(2, 2), [(0, 0, 1, 1), (1, 1, 2, 2), (3, 0, 3, 3)]
        for call in (cells_of, runs_of):
            self.assertEqual(call(layout, boxes), call(layout, boxes))
            self.assertIs(type(call(layout, boxes)), int)
        self.assertEqual(boxes, [(0, 0, 1, 1), (1, 1, 2, 2), (3, 0, 3, 3)])
        self.assertTrue(layout == Layout("yxyx"))


if __name__ == "__main__":
    unittest.main()
