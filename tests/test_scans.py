import random
import time
import unittest

from lacekeys.errors import InvalidBox, InvalidLayout, InvalidNumber
from lacekeys.layouts import Layout, laced, rows
from lacekeys.runs import count_runs, ends
from lacekeys.scans import fewest_read, fewest_scans, least_cost
from tests import great, plain, wrong

BAR = (1, 0, 2, 3)
LAST = 2 ** 100 - 1
PRICES = (0, 1, 2, 3, 5, 8, 13, 40)


class ExampleTest(unittest.TestCase):
    def test_example(self):
        z = Layout("yxyx")
        told = [[fewest_read(z, BAR, scans) for scans in (1, 2, 3, 6, 9)], fewest_scans(z, BAR, 11)]
        told += [fewest_scans(z, BAR, 7), least_cost(z, BAR, 3, 1), least_cost(z, BAR, 3, 2)]
        self.assertEqual(told, [[14, 12, 11, 8, 8], 3, None, 17, 30])


class SmallGridsTest(unittest.TestCase):
    def hold(self, word, keys, box):
        """Hold all three against all ways to join the runs to scans."""
        layout = Layout(word)
        spans = plain.stretches(plain.keys_of(keys, box))
        ways = plain.all_ways(spans)
        for scans in range(1, len(spans) + 3):
            fewest = min(read for many, read in ways if many <= scans)
            self.assertEqual(fewest_read(layout, box, scans), fewest, (word, box, scans))
        for most in range(1, 2 ** len(word) + 3):
            fewest = min((many for many, read in ways if read <= most), default=None)
            self.assertEqual(fewest_scans(layout, box, most), fewest, (word, box, most))
        for scan_price in PRICES:
            for key_price in PRICES:
                least = min(many * scan_price + read * key_price for many, read in ways)
                self.assertEqual(least_cost(layout, box, scan_price, key_price), least, (word, box))

    def test_all_boxes_of_all_words_of_a_few_letters(self):
        for word, keys, box in plain.all_cases(plain.small_words(3) + ["yxyx", "yyxx"]):
            self.hold(word, keys, box)

    def test_some_boxes_of_many_words(self):
        chance = random.Random(21)
        for word, keys, box in plain.some_cases(chance, plain.words(3, 3) + plain.words(2, 4), 4):
            # Each further run doubles the ways to join them.
            if len(plain.stretches(plain.keys_of(keys, box))) <= 12:
                self.hold(word, keys, box)


class GreatGridsTest(unittest.TestCase):
    def hold_inverse(self, layout, box, scans, keys):
        """Hold the scans for so many keys against the keys that as many scans read, and one scan less."""
        if scans is None:
            self.assertLess(keys, great.area(box))
        else:
            self.assertLessEqual(fewest_read(layout, box, scans), keys)
            if scans > 1:
                self.assertGreater(fewest_read(layout, box, scans - 1), keys)

    def test_the_gaps_tell_all(self):
        chance = random.Random(22)
        for word, box in great.great_cases(chance)[::3]:
            layout = Layout(word)
            gaps = great.halved_lengths(word, box)[1][::-1]
            held = {0, 1, len(gaps) // 2, chance.randrange(len(gaps) + 1), len(gaps) - 2, len(gaps) - 1}
            scans, read = 1, ends(layout, box)[1] - ends(layout, box)[0] + 1
            self.assertEqual(fewest_read(layout, box, scans), read)
            for at, (length, many) in enumerate(gaps):
                if at in held:
                    half = many // 2
                    self.assertEqual(fewest_read(layout, box, scans + half), read - half * length)
                    self.assertEqual(fewest_scans(layout, box, read - half * length), scans + half)
                scans, read = scans + many, read - many * length
                if at in held:
                    self.assertEqual(fewest_read(layout, box, scans), read)
                    self.assertEqual(fewest_scans(layout, box, read), scans)
                    self.assertEqual(fewest_scans(layout, box, read + length - 1), scans)
                    self.assertEqual(fewest_scans(layout, box, read + length), scans - 1)
            self.assertEqual((scans, read), (count_runs(layout, box), great.area(box)))
            self.assertEqual(fewest_read(layout, box, scans + 1), read)
            self.assertEqual(fewest_read(layout, box, 10 ** 99), read)
            self.assertEqual(fewest_scans(layout, box, 10 ** 99), 1)
            if read > 1:
                self.assertIsNone(fewest_scans(layout, box, read - 1))

    def test_keys_and_scans_are_inverse(self):
        chance = random.Random(23)
        for word, box in great.great_cases(chance)[1::4]:
            layout = Layout(word)
            first, last = ends(layout, box)
            for keys in (chance.randrange(1, last + 2), great.area(box), last - first + 1, max(1, last - first)):
                self.hold_inverse(layout, box, fewest_scans(layout, box, keys), keys)

    def test_costs_are_the_least_of_all_numbers_of_scans(self):
        chance = random.Random(24)
        for word, box in great.great_cases(chance)[1::4]:
            layout = Layout(word)
            gaps = great.halved_lengths(word, box)[1]
            for key_price, scan_price in ((1, 3), (7, 10 ** 20), (10 ** 30, 1), (3, 2 ** 110), (5, 0), (0, 5), (0, 0)):
                # Scans are worth their price at the gaps that would cost more.
                scans = 1 + sum(many for length, many in gaps if length * key_price > scan_price)
                least = scans * scan_price + fewest_read(layout, box, scans) * key_price
                self.assertEqual(least_cost(layout, box, scan_price, key_price), least)
                for other in (1, 2, scans - 1, scans + 1, scans // 2, scans * 2, count_runs(layout, box)):
                    if other > 0:
                        cost = other * scan_price + fewest_read(layout, box, other) * key_price
                        self.assertLessEqual(least, cost)

    def test_rows(self):
        wide, high, end = 10 ** 30 - 4, 10 ** 29 - 6, 2 ** 100
        layout, box = rows(100, 100), (5, 7, 10 ** 30, 10 ** 29)
        gap = end - wide
        self.assertEqual(fewest_read(layout, box, 1), wide * high + gap * (high - 1))
        self.assertEqual(fewest_read(layout, box, 10 ** 20), wide * high + gap * (high - 10 ** 20))
        self.assertEqual(fewest_read(layout, box, high), wide * high)
        self.assertEqual(fewest_scans(layout, box, wide * high + 5 * gap), high - 5)
        self.assertEqual(fewest_scans(layout, box, wide * high + 5 * gap - 1), high - 4)
        self.assertEqual(fewest_scans(layout, box, wide * high), high)
        self.assertIsNone(fewest_scans(layout, box, wide * high - 1))
        self.assertEqual(least_cost(layout, box, gap * 3 - 1, 3), high * (gap * 3 - 1) + wide * high * 3)
        self.assertEqual(least_cost(layout, box, gap * 3 + 1, 3), gap * 3 + 1 + (wide * high + gap * (high - 1)) * 3)

    def test_boxes_that_are_one_run(self):
        for word in ("yx" * 100, "y" * 100 + "x" * 100, "x" * 100, "y" * 100, "x", "y"):
            layout, whole, end = Layout(word), plain.whole_box(word), 2 ** len(word)
            cell = layout.cell(end // 3)
            for box, cells in ((whole, end), (cell + cell, 1)):
                self.assertEqual([fewest_read(layout, box, scans) for scans in (1, 2, 10 ** 99)], [cells] * 3)
                self.assertEqual([fewest_scans(layout, box, keys) for keys in (cells, cells + 1, 10 ** 99)], [1] * 3)
                if cells > 1:
                    self.assertIsNone(fewest_scans(layout, box, cells - 1))
                    self.assertIsNone(fewest_scans(layout, box, 1))
                self.assertEqual(least_cost(layout, box, 3, 10 ** 50), 3 + cells * 10 ** 50)

    def test_words_of_one_kind_of_letter(self):
        for low, high in ((0, LAST), (1, LAST - 1), (10 ** 20, 10 ** 30)):
            for layout, box in ((Layout("x" * 100), (low, 0, high, 0)), (Layout("y" * 100), (0, low, 0, high))):
                cells = high - low + 1
                self.assertEqual([fewest_read(layout, box, scans) for scans in (1, 2)], [cells, cells])
                told = [fewest_scans(layout, box, keys) for keys in (1, cells - 1, cells, cells + 1)]
                self.assertEqual(told, [None, None, 1, 1])
                self.assertEqual(least_cost(layout, box, 5, 2), 5 + 2 * cells)

    def test_how_long_an_answer_takes(self):
        chance = random.Random(25)
        for word in ("yx" * 100, "xy" * 100, "xxyy" * 50, plain.some_word(chance, 100, 100)):
            layout, box = Layout(word), plain.some_box(chance, word)
            for call, more in ((fewest_read, (10 ** 20,)), (fewest_scans, (2 ** 198,)), (least_cost, (10 ** 40, 7))):
                begin = time.process_time()
                call(layout, box, *more)
                self.assertLess(time.process_time() - begin, 1, (call, word))


class ArgumentsTest(unittest.TestCase):
    def hold(self, call, more, low):
        for layout in (laced(2, 2), laced(100, 100), Layout("x")):
            layouts = (InvalidLayout, plain.wrong_layouts())
            boxes = (InvalidBox, plain.wrong_boxes(layout.x_bits, layout.y_bits))
            numbers = [(InvalidNumber, plain.wrong_integers(low)) for _ in more]
            wrong.hold_errors(self, call, (layout, (0, 0, 0, 0)) + more, [layouts, boxes] + numbers)

    def test_wrong_arguments_of_fewest_read(self):
        self.hold(fewest_read, (1,), 1)

    def test_wrong_arguments_of_fewest_scans(self):
        self.hold(fewest_scans, (1,), 1)

    def test_wrong_arguments_of_least_cost(self):
        self.hold(least_cost, (0, 0), 0)

    def test_numbers_below_one_are_wrong_also_where_the_box_has_more_cells(self):
        for keys in (0, -1, False, True, None):
            with self.subTest(keys), self.assertRaises(InvalidNumber):
                fewest_scans(laced(2, 2), BAR, keys)

    def test_kinds_of_the_answers(self):
        layout = laced(2, 2)
        told = [fewest_read(layout, BAR, 2), fewest_scans(layout, BAR, 9), least_cost(layout, BAR, 0, 0)]
        self.assertEqual([type(number) for number in told], [int, int, int])

    def test_what_is_passed_stays_as_it_is(self):
        layout, box = laced(2, 2), (1, 0, 2, 3)
        for call, more in ((fewest_read, (2,)), (fewest_scans, (11,)), (least_cost, (3, 1))):
            self.assertEqual(call(layout, box, *more), call(layout, box, *more))
        self.assertTrue(layout == Layout("yxyx"))
        self.assertEqual(box, (1, 0, 2, 3))


if __name__ == "__main__":
    unittest.main()
