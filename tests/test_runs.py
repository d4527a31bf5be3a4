import random
import unittest

from lacekeys.errors import InvalidBox, InvalidLayout
from lacekeys.layouts import Layout, columns, laced, rows
from lacekeys.runs import count_runs, ends, saved
from tests import great, plain

CALLS = (count_runs, saved, ends)
SQUARE, BAR = (0, 0, 2, 2), (1, 0, 2, 3)
LAST = 2 ** 100 - 1


class ExampleTest(unittest.TestCase):
    def test_example(self):
        z = Layout("yxyx")
        told = [count_runs(z, SQUARE), saved(z, SQUARE), ends(z, SQUARE), count_runs(z, BAR)]
        told += [count_runs(rows(2, 2), BAR), count_runs(columns(2, 2), BAR)]
        self.assertEqual(told, [4, [0, 1, 1, 3], (0, 12), 6, 4, 1])


class SmallGridsTest(unittest.TestCase):
    def hold(self, word, keys, box):
        told = plain.keys_of(keys, box)
        layout = Layout(word)
        self.assertEqual(count_runs(layout, box), len(plain.stretches(told)), (word, box))
        self.assertEqual(saved(layout, box), plain.plain_saved(word, told), (word, box))
        self.assertEqual(ends(layout, box), (told[0], told[-1]), (word, box))

    def test_all_boxes_of_all_words_of_a_few_letters(self):
        for word, keys, box in plain.all_cases(plain.small_words(4)):
            self.hold(word, keys, box)

    def test_all_boxes_of_some_words(self):
        for word, keys, box in plain.all_cases(plain.words(3, 3) + ["xxxxxx", "yyyyyy", "xxxxyx", "yxyyyy"]):
            self.hold(word, keys, box)

    def test_some_boxes_of_many_words(self):
        chance = random.Random(2)
        for word, keys, box in plain.some_cases(chance, plain.words(4, 4) + plain.words(5, 2) + plain.words(1, 6), 6):
            self.hold(word, keys, box)


def great_words(chance):
    """Return words of great grids, those of one kind of letter among them."""
    return [rows(100, 100).word, laced(100, 100).word, plain.some_word(chance, 100, 100), "x" * 100, "y" * 100]


class GreatGridsTest(unittest.TestCase):
    def hold(self, word, box):
        runs, letters = great.halved(word, box)
        layout = Layout(word)
        self.assertEqual(count_runs(layout, box), runs, (word, box))
        self.assertEqual(saved(layout, box), letters, (word, box))
        least, greatest = plain.plain_key(word, box[:2]), plain.plain_key(word, box[2:])
        self.assertEqual(ends(layout, box), (least, greatest), (word, box))

    def test_halves_tell_the_same_as_a_listing(self):
        for word, keys, box in plain.all_cases(("yxyx", "xyyx", "xxy")):
            told = plain.keys_of(keys, box)
            runs = len(plain.stretches(told))
            self.assertEqual(great.halved(word, box), (runs, plain.plain_saved(word, told)))

    def test_great_boxes(self):
        chance = random.Random(3)
        given = [laced(100, 100).word, rows(100, 100).word, columns(100, 100).word, laced(100, 37).word]
        for word in given + [plain.some_word(chance, 100, 100) for _ in range(4)] + [plain.some_word(chance, 3, 100)]:
            for turn in range(2):
                self.hold(word, plain.some_box(chance, word))

    def test_boxes_at_the_ends(self):
        chance = random.Random(4)
        for word in (laced(100, 100).word, plain.some_word(chance, 100, 100)):
            for box in (
                (0, 0, LAST - 1, LAST - 1), (1, 1, LAST, LAST), (1, 1, LAST - 1, LAST - 1), (0, 0, LAST, 0),
                (0, LAST, LAST, LAST), (0, 0, 0, LAST), (LAST, 0, LAST, LAST), (LAST - 1, LAST - 1, LAST, LAST),
                (LAST // 2, LAST // 2, LAST // 2 + 1, LAST // 2 + 1),
            ):
                self.hold(word, box)

    def test_whole_grids(self):
        chance = random.Random(5)
        for word in great_words(chance):
            whole = (0, 0, 2 ** word.count("x") - 1, 2 ** word.count("y") - 1)
            layout = Layout(word)
            self.assertEqual(count_runs(layout, whole), 1)
            self.assertEqual(saved(layout, whole), [2 ** at for at in range(len(word))])
            self.assertEqual(ends(layout, whole), (0, 2 ** len(word) - 1))

    def test_boxes_of_one_cell(self):
        chance = random.Random(6)
        for word in great_words(chance):
            layout = Layout(word)
            last = 2 ** len(word) - 1
            for key in (0, 1, last // 2, last // 2 + 1, last - 1, last):
                cell = layout.cell(key)
                self.assertEqual(count_runs(layout, cell + cell), 1)
                self.assertEqual(saved(layout, cell + cell), [0] * len(word))
                self.assertEqual(ends(layout, cell + cell), (key, key))

    def test_rows_and_columns(self):
        for box in ((5, 7, 10 ** 30, 10 ** 29), (1, 0, LAST, LAST - 1), (0, 1, LAST - 1, LAST)):
            x1, y1, x2, y2 = box
            self.assertEqual(count_runs(rows(100, 100), box), y2 - y1 + 1)
            self.assertEqual(count_runs(columns(100, 100), box), x2 - x1 + 1)
        self.assertEqual(count_runs(rows(100, 100), (0, 5, LAST, 10 ** 30)), 1)
        self.assertEqual(count_runs(columns(100, 100), (5, 0, 10 ** 30, LAST)), 1)

    def test_words_of_one_kind_of_letter(self):
        for low, high in ((0, 0), (0, LAST), (1, LAST - 1), (10 ** 20, 10 ** 30), (LAST, LAST)):
            self.assertEqual(count_runs(Layout("x" * 100), (low, 0, high, 0)), 1)
            self.assertEqual(count_runs(Layout("y" * 100), (0, low, 0, high)), 1)
            self.assertEqual(sum(saved(Layout("x" * 100), (low, 0, high, 0))), high - low)
            self.assertEqual(sum(saved(Layout("y" * 100), (0, low, 0, high))), high - low)
            self.assertEqual(ends(Layout("x" * 100), (low, 0, high, 0)), (low, high))
            self.assertEqual(ends(Layout("y" * 100), (0, low, 0, high)), (low, high))

    def test_letters_behind_scale_a_box_and_letters_in_front_leave_it(self):
        for front, behind in (("x" * 97 + "y" * 97, ""), ("", "yx" * 97), ("xy" * 40, "y" * 50 + "x" * 30)):
            shift_x, shift_y = 2 ** (3 + behind.count("x")), 2 ** (3 + behind.count("y"))
            x0, y0 = shift_x * (2 ** front.count("x") - 1), shift_y * (2 ** front.count("y") // 3)
            wide, high = 2 ** behind.count("x"), 2 ** behind.count("y")
            for box in (SQUARE, BAR, (1, 2, 6, 4), (0, 3, 7, 7), (5, 5, 5, 5)):
                x1, y1, x2, y2 = box
                great = (x0 + x1 * wide, y0 + y1 * high, x0 + (x2 + 1) * wide - 1, y0 + (y2 + 1) * high - 1)
                told = plain.keys_of(plain.listing("xyyxxy"), box)
                layout = Layout(front + "xyyxxy" + behind)
                self.assertEqual(count_runs(layout, great), len(plain.stretches(told)))
                letters = [0] * len(front) + plain.plain_saved("xyyxxy", told)
                self.assertEqual(saved(layout, great)[:len(front) + 6], letters)


class ArgumentsTest(unittest.TestCase):
    def test_saved_is_a_new_list_each_time(self):
        layout = laced(2, 2)
        first = saved(layout, SQUARE)
        self.assertIs(type(first), list)
        first[0] = 100
        first.append(1)
        self.assertEqual(saved(layout, SQUARE), [0, 1, 1, 3])
        self.assertEqual(count_runs(layout, SQUARE), 4)

    def test_kinds_of_the_answers(self):
        layout = laced(2, 2)
        self.assertIs(type(count_runs(layout, SQUARE)), int)
        self.assertEqual({type(number) for number in saved(layout, SQUARE)}, {int})
        self.assertIs(type(ends(layout, SQUARE)), tuple)
        self.assertEqual([type(key) for key in ends(layout, SQUARE)], [int, int])

    def test_what_is_passed_stays_as_it_is(self):
        layout, box = laced(2, 2), (1, 0, 2, 3)
        for call in CALLS:
            call(layout, box)
            self.assertEqual(call(layout, box), call(Layout("yxyx"), (1, 0, 2, 3)))
        self.assertTrue(layout == Layout("yxyx"))
        self.assertEqual((layout.x_bits, layout.y_bits), (2, 2))
        self.assertEqual(box, (1, 0, 2, 3))
        boxed = [1, 0, 2, 3]
        for call in CALLS:
            with self.assertRaises(InvalidBox):
                call(layout, boxed)
        self.assertEqual(boxed, [1, 0, 2, 3])

    def test_wrong_layouts(self):
        for call in CALLS:
            for layout in plain.wrong_layouts():
                with self.subTest(call, layout=layout), self.assertRaises(InvalidLayout):
                    call(layout, (0, 0, 0, 0))

    def test_wrong_boxes(self):
        for word in ("x", "y", "xy", "yxyx", "xxxy", "xy" * 100):
            layout = Layout(word)
            for box in plain.wrong_boxes(layout.x_bits, layout.y_bits):
                for call in CALLS:
                    with self.subTest(word, call=call, box=box), self.assertRaises(InvalidBox):
                        call(layout, box)

    def test_both_wrong(self):
        for call in CALLS:
            for layout in plain.wrong_layouts():
                for box in (None, (0, 0), (-1, 0, 0, 0), "box", layout):
                    with self.subTest(call, layout=layout, box=box), self.assertRaises(InvalidLayout):
                        call(layout, box)

    def test_arguments_the_other_way_round(self):
        for call in CALLS:
            with self.assertRaises(InvalidLayout):
                call(SQUARE, laced(2, 2))


if __name__ == "__main__":
    unittest.main()
