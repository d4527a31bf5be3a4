import random
import unittest
from math import comb

from lacekeys.alike import count_ahead, parting_box
from lacekeys.errors import InvalidBits, InvalidCell, InvalidLayout, UnlikeGrids
from lacekeys.layouts import Layout, columns, laced, rows
from lacekeys.runs import count_runs
from tests import great, plain, wrong

LAST = 2 ** 100 - 1


class ExampleTest(unittest.TestCase):
    def test_example(self):
        z = Layout("yxyx")
        told = [parting_box(z, rows(2, 2)), parting_box(z, z), count_ahead(2, 2, (1, 0), (0, 1))]
        told += [count_ahead(2, 2, (1, 0), (0, 2)), count_ahead(2, 2, (1, 0), (3, 0))]
        self.assertEqual(told, [(0, 0, 3, 0), None, 3, 5, 6])


class PartingBoxTest(unittest.TestCase):
    def test_all_pairs_of_short_words(self):
        words = plain.small_words(6)
        listings = {word: plain.listing(word) for word in words}
        for one in words:
            for two in words:
                if one == two:
                    self.assertIsNone(parting_box(Layout(one), Layout(two)))
                elif sorted(one) == sorted(two):
                    at = max(at for at in range(len(one)) if one[at] != two[at])
                    i, j = one[at + 1:].count("x"), one[at + 1:].count("y")
                    box = parting_box(Layout(one), Layout(two))
                    self.assertEqual(box, (0, 0, 2 ** (i + 1) - 1, 2 ** j - 1), (one, two))
                    for word in (one, two):
                        runs = len(plain.stretches(plain.keys_of(listings[word], box)))
                        self.assertEqual(runs, 1 if word[at] == "x" else 2, (one, two, word))
                else:
                    with self.assertRaises(UnlikeGrids):
                        parting_box(Layout(one), Layout(two))

    def test_great_words(self):
        chance = random.Random(71)
        given = ["yx" * 100, "xy" * 100, "x" * 100 + "y" * 100, "y" * 100 + "x" * 100]
        given += [plain.some_word(chance, 100, 100) for _ in range(4)]
        given += great.neighbours(given[0])[::20] + great.neighbours(given[2])
        for one in given:
            for two in given:
                box = parting_box(Layout(one), Layout(two))
                if one == two:
                    self.assertIsNone(box)
                else:
                    told = sorted([count_runs(Layout(one), box), count_runs(Layout(two), box)])
                    self.assertEqual(told, [1, 2])
                    # By the letters behind, it is one block, and another one beside it.
                    i, j = (box[2] + 1).bit_length() - 2, (box[3] + 1).bit_length() - 1
                    self.assertEqual(box, (0, 0, 2 ** (i + 1) - 1, 2 ** j - 1))
                    self.assertEqual(one[200 - i - j:], two[200 - i - j:])
                    self.assertEqual({one[199 - i - j], two[199 - i - j]}, {"x", "y"})
        self.assertEqual(parting_box(rows(100, 100), columns(100, 100)), (0, 0, 1, 0))
        self.assertEqual(parting_box(rows(100, 1), Layout("x" * 99 + "yx")), (0, 0, 3, 0))
        self.assertEqual(parting_box(rows(100, 1), Layout("xy" + "x" * 99)), (0, 0, LAST, 0))
        self.assertEqual(parting_box(columns(1, 100), Layout("yx" + "y" * 99)), (0, 0, 1, LAST // 2))

    def test_wrong_arguments(self):
        layouts = (InvalidLayout, plain.wrong_layouts())
        for layout in (laced(2, 2), laced(100, 100), Layout("x")):
            wrong.hold_errors(self, parting_box, (layout, layout), [layouts, layouts])

    def test_grids_that_are_not_alike(self):
        for one in (laced(2, 2), laced(2, 3), laced(3, 2), laced(4, 0), laced(100, 100), laced(100, 99), Layout("y")):
            for two in (laced(1, 2), laced(2, 1), laced(1, 3), laced(0, 4), laced(99, 100), Layout("x")):
                wrong.hold_error(self, parting_box, (one, two), UnlikeGrids)
                wrong.hold_error(self, parting_box, (two, one), UnlikeGrids)
                wrong.hold_error(self, parting_box, (two, None), InvalidLayout)


class CountAheadTest(unittest.TestCase):
    def test_all_pairs_of_cells_of_small_grids(self):
        for x_bits, y_bits in ((1, 0), (0, 1), (1, 1), (2, 1), (1, 2), (2, 2), (3, 0), (0, 3), (3, 1), (1, 3), (3, 2)):
            listings = [plain.listing(word) for word in plain.words(x_bits, y_bits)]
            for cell in listings[0]:
                for other in listings[0]:
                    ahead = sum(keys[cell] < keys[other] for keys in listings)
                    self.assertEqual(count_ahead(x_bits, y_bits, cell, other), ahead, (x_bits, y_bits, cell, other))

    def test_some_pairs_of_cells_of_more_letters(self):
        chance = random.Random(72)
        for x_bits, y_bits in ((4, 4), (5, 3), (2, 7), (1, 100), (100, 1), (2, 30), (100, 0), (0, 100)):
            words = plain.words(x_bits, y_bits)
            for _ in range(12):
                cell, other = [plain.some_cell(chance, plain.whole_box(words[0])) for _ in range(2)]
                ahead = sum(plain.plain_key(word, cell) < plain.plain_key(word, other) for word in words)
                self.assertEqual(count_ahead(x_bits, y_bits, cell, other), ahead, (x_bits, y_bits, cell, other))

    def plain_ahead(self, x_bits, y_bits, cell, other):
        """Go through the numbers of letters x and y that can stand ahead of the one that decides."""
        digits = {"x": [plain.digits(one[0], x_bits) for one in (cell, other)]}
        digits["y"] = [plain.digits(one[1], y_bits) for one in (cell, other)]
        ways, ahead = {(0, 0): 1}, 0
        for many in range(x_bits + y_bits):
            longer = {}
            for (i, j), count in ways.items():
                for letter, at, left in (("x", i, x_bits - i), ("y", j, y_bits - j)):
                    if not left:
                        continue
                    low, high = digits[letter][0][at], digits[letter][1][at]
                    place = (i + 1, j) if letter == "x" else (i, j + 1)
                    if low == high:
                        longer[place] = longer.get(place, 0) + count
                    elif low < high:
                        # It decides, and the others stand behind it in any sequence.
                        ahead += count * comb(x_bits + y_bits - sum(place), x_bits - place[0])
            ways = longer
        return ahead

    def test_great_grids(self):
        chance = random.Random(73)
        whole = (0, 0, LAST, LAST)
        pairs = [[plain.some_cell(chance, whole) for _ in range(2)] for _ in range(4)]
        for x_power, y_power in ((0, 0), (99, 99), (0, 99), (99, 0), (50, 50), (3, 80), (98, 1)):
            x, y = plain.some_cell(chance, whole)
            # They differ at these digits and behind them.
            pairs.append([(x | 2 ** x_power, y & ~2 ** y_power), (x & ~2 ** x_power, y | 2 ** y_power)])
        pairs += [[(0, LAST), (LAST, 0)], [(0, 0), (LAST, LAST)], [(5, 0), (5, LAST)], [(LAST, 7), (0, 7)]]
        for cell, other in pairs:
            for one, two in ((cell, other), (other, cell)):
                told = count_ahead(100, 100, one, two)
                self.assertEqual(told, self.plain_ahead(100, 100, one, two), (one, two))
            self.assertEqual(count_ahead(100, 100, other, cell) + count_ahead(100, 100, cell, other), comb(200, 100))
            self.assertEqual(count_ahead(100, 100, cell, cell), 0)

    def test_wrong_arguments(self):
        bits = (InvalidBits, plain.wrong_bits())
        for x_bits, y_bits in ((2, 2), (100, 100), (3, 1), (0, 1)):
            cells = (InvalidCell, plain.wrong_cells(x_bits, y_bits))
            wrong.hold_errors(self, count_ahead, (x_bits, y_bits, (0, 0), (0, 1)), [bits, bits, cells, cells])
        wrong.hold_error(self, count_ahead, (0, 0, (0, 0), (0, 0)), InvalidBits)
        wrong.hold_error(self, count_ahead, (0, 0, None, None), InvalidBits)

    def test_kinds_of_the_answers(self):
        for cell, other in (((1, 0), (0, 1)), ((1, 0), (1, 0)), ((0, 0), (1, 1)), ((1, 1), (0, 0))):
            self.assertIs(type(count_ahead(2, 2, cell, other)), int)
        box = parting_box(laced(2, 2), rows(2, 2))
        self.assertEqual((type(box), [type(part) for part in box]), (tuple, [int] * 4))


if __name__ == "__main__":
    unittest.main()
