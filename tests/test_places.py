import random
import time
import unittest
from fractions import Fraction
from math import comb

from lacekeys.errors import InvalidBits, InvalidLayout, InvalidSize
from lacekeys.layouts import Layout, columns, laced, rows
from lacekeys.places import best_anywhere, fewest_runs, mean_runs, most_runs, total_runs
from lacekeys.runs import count_runs
from tests import great, plain, wrong

CALLS = (total_runs, mean_runs, fewest_runs, most_runs)
END = 2 ** 100


def box_at(place, width, height):
    """Return the box of a size at a place."""
    return (place[0], place[1], place[0] + width - 1, place[1] + height - 1)


class ExampleTest(unittest.TestCase):
    def test_example(self):
        z = Layout("yxyx")
        told = [total_runs(z, 2, 2), mean_runs(z, 2, 2), fewest_runs(z, 2, 2), most_runs(z, 2, 2)]
        told += [best_anywhere(2, 2, 2, 1), best_anywhere(2, 2, 2, 2)]
        self.assertEqual(told, [18, (2, 1), (1, 4, (0, 0)), (4, 1, (1, 1)), (12, 1, "yyxx"), (18, 6, "xxyy")])


class SmallGridsTest(unittest.TestCase):
    def hold(self, word, keys, width, height):
        """Hold all functions with a layout against all places, one by one; return the sum of the runs."""
        layout, runs = Layout(word), {}
        for x in range(2 ** layout.x_bits - width + 1):
            for y in range(2 ** layout.y_bits - height + 1):
                told = plain.keys_of(keys, box_at((x, y), width, height))
                runs[x, y] = len(plain.stretches(told))
        total = sum(runs.values())
        self.assertEqual(total_runs(layout, width, height), total, (word, width, height))
        mean = Fraction(total, len(runs))
        self.assertEqual(mean_runs(layout, width, height), (mean.numerator, mean.denominator), (word, width, height))
        for call, end in ((fewest_runs, min(runs.values())), (most_runs, max(runs.values()))):
            those = sorted((keys[place], place) for place in runs if runs[place] == end)
            self.assertEqual(call(layout, width, height), (end, len(those), those[0][1]), (word, width, height))
        return total

    def test_all_sizes_on_small_grids(self):
        for x_bits, y_bits in ((1, 0), (0, 1), (1, 1), (2, 1), (1, 2), (2, 2), (3, 0), (0, 3), (3, 1), (1, 3)):
            for width in range(1, 2 ** x_bits + 1):
                for height in range(1, 2 ** y_bits + 1):
                    words = plain.words(x_bits, y_bits)
                    totals = {word: self.hold(word, plain.listing(word), width, height) for word in words}
                    least = min(totals.values())
                    those = sorted(word for word in words if totals[word] == least)
                    self.assertEqual(best_anywhere(x_bits, y_bits, width, height), (least, len(those), those[0]))

    def test_some_sizes_on_grids_of_more_letters(self):
        chance = random.Random(51)
        for x_bits, y_bits in ((3, 2), (2, 3), (3, 3), (4, 2), (1, 5), (6, 0), (0, 6)):
            words = plain.words(x_bits, y_bits)
            listings = {word: plain.listing(word) for word in words}
            for _ in range(4):
                width, height = chance.randint(1, 2 ** x_bits), chance.randint(1, 2 ** y_bits)
                totals = {word: self.hold(word, listings[word], width, height) for word in words}
                least = min(totals.values())
                those = sorted(word for word in words if totals[word] == least)
                self.assertEqual(best_anywhere(x_bits, y_bits, width, height), (least, len(those), those[0]))

    def test_all_sizes_of_some_words(self):
        for word in ("yxyxyx", "xyyxxy", "xxxyyy", "yyxxxx", "xyyyyx"):
            keys = plain.listing(word)
            for width in range(1, 2 ** word.count("x") + 1):
                for height in range(1, 2 ** word.count("y") + 1):
                    self.hold(word, keys, width, height)


class GreatGridsTest(unittest.TestCase):
    def hold(self, word, width, height):
        """Hold all functions with a layout against one place of each kind that goes alike."""
        layout, told, total = Layout(word), {}, 0
        for x, x_many in great.place_classes(layout.x_bits, width):
            for y, y_many in great.place_classes(layout.y_bits, height):
                runs = count_runs(layout, box_at((x, y), width, height))
                told.setdefault(runs, []).append((plain.plain_key(word, (x, y)), (x, y), x_many * y_many))
                total += runs * x_many * y_many
        places = (2 ** layout.x_bits - width + 1) * (2 ** layout.y_bits - height + 1)
        self.assertEqual(sum(one[2] for those in told.values() for one in those), places)
        self.assertEqual(total_runs(layout, width, height), total)
        mean = Fraction(total, places)
        self.assertEqual(mean_runs(layout, width, height), (mean.numerator, mean.denominator))
        for call, runs in ((fewest_runs, min(told)), (most_runs, max(told))):
            many = sum(one[2] for one in told[runs])
            self.assertEqual(call(layout, width, height), (runs, many, min(told[runs])[1]), (word, width, height))

    def test_kinds_of_places_tell_the_same_as_all_places(self):
        for bits, size in ((5, 1), (5, 2), (5, 3), (5, 7), (5, 8), (6, 13), (3, 8), (0, 1)):
            told = great.place_classes(bits, size)
            self.assertEqual(sum(many for _, many in told), 2 ** bits - size + 1)

    def test_small_sizes(self):
        chance = random.Random(52)
        for word in ("yx" * 14, "x" * 12 + "y" * 13, "y" * 10 + "x" * 15, plain.some_word(chance, 13, 12)):
            for width, height in ((1, 1), (2, 1), (1, 2), (2, 2), (3, 2), (4, 4), (5, 3)):
                self.hold(word, width, height)
        for word in ("yx" * 100, plain.some_word(chance, 100, 100), "y" * 100 + "x" * 100):
            self.hold(word, 5, 1)
            self.hold(word, 1, 6)

    def test_sizes_beside_the_whole_side(self):
        chance = random.Random(53)
        for x_bits, y_bits in ((100, 100), (100, 100), (64, 90)):
            word = plain.some_word(chance, x_bits, y_bits)
            wide, high = 2 ** word.count("x"), 2 ** word.count("y")
            for width, height in ((wide, high), (wide - 1, high), (wide, high - 1), (wide - 1, high - 1),
                                  (wide - 4, high - 3), (wide, 3), (2, high)):
                self.hold(word, width, height)

    def test_words_of_one_kind_of_letter(self):
        for size in (1, 2, 3, 2 ** 50 - 1, 2 ** 50, 2 ** 50 + 1, 10 ** 30, END - 1, END):
            for layout, sizes in ((Layout("x" * 100), (size, 1)), (Layout("y" * 100), (1, size))):
                places = END - size + 1
                self.assertEqual(total_runs(layout, *sizes), places)
                self.assertEqual(mean_runs(layout, *sizes), (1, 1))
                self.assertEqual(fewest_runs(layout, *sizes), (1, places, (0, 0)))
                self.assertEqual(most_runs(layout, *sizes), (1, places, (0, 0)))
                self.assertEqual(best_anywhere(layout.x_bits, layout.y_bits, *sizes), (places, 1, layout.word))

    def sizes(self, chance, bits):
        """Return sizes: of one, of the whole side, beside powers of two, and some."""
        end = 2 ** bits
        told = [1, 2, 3, end // 2 - 1, end // 2, end // 2 + 1, end // 64 - 1, end // 64 + 1, end - 1, end]
        return [size for size in told + [chance.randint(1, end), chance.randint(1, end)] if 1 <= size <= end]

    def test_sums_at_all_places(self):
        chance = random.Random(54)
        given = ["yx" * 100, "y" * 100 + "x" * 100, "x" * 100 + "y" * 100, plain.some_word(chance, 100, 100)]
        for word in given + ["xyxxyx", "x" * 100, "xy" * 20 + "x" * 60]:
            layout = Layout(word)
            for width in self.sizes(chance, layout.x_bits):
                for height in chance.sample(self.sizes(chance, layout.y_bits), 2 if layout.y_bits else 1):
                    total = great.total_at_places(word, width, height)
                    self.assertEqual(total_runs(layout, width, height), total, (word, width, height))
                    places = (2 ** layout.x_bits - width + 1) * (2 ** layout.y_bits - height + 1)
                    mean = Fraction(total, places)
                    self.assertEqual(mean_runs(layout, width, height), (mean.numerator, mean.denominator))

    def test_fewest_and_most_of_great_sizes(self):
        chance = random.Random(55)
        for word in ("yx" * 100, "xxy" * 50 + "y" * 50, plain.some_word(chance, 100, 100), "x" + "y" * 100):
            layout = Layout(word)
            for width in chance.sample(self.sizes(chance, layout.x_bits), 3 if layout.x_bits > 2 else 2):
                for height in chance.sample(self.sizes(chance, layout.y_bits), 3):
                    fewest, most = fewest_runs(layout, width, height), most_runs(layout, width, height)
                    ends = [(2 ** layout.x_bits - width, 2 ** layout.y_bits - height)]
                    given = [(0, 0)] + ends + [plain.some_cell(chance, (0, 0) + ends[0]) for _ in range(8)]
                    for told in (fewest, most):
                        self.assertTrue(plain.is_in(told[2], (0, 0) + ends[0]))
                        self.assertEqual(count_runs(layout, box_at(told[2], width, height)), told[0])
                        self.assertGreaterEqual(told[1], 1)
                    for place in given:
                        runs = count_runs(layout, box_at(place, width, height))
                        self.assertTrue(fewest[0] <= runs <= most[0])
                        for told in (fewest, most):
                            # No other place with as many runs has a lesser key.
                            if runs == told[0]:
                                self.assertLessEqual(plain.plain_key(word, told[2]), plain.plain_key(word, place))

    def test_rows_and_columns(self):
        for width, height in ((1, 1), (10 ** 30, 10 ** 29), (END - 1, 7), (3, END), (END, 5), (END - 1, END)):
            places = (END - width + 1) * (END - height + 1)
            by_rows, by_columns = 1 if width == END else height, 1 if height == END else width
            for layout, runs in ((rows(100, 100), by_rows), (columns(100, 100), by_columns)):
                self.assertEqual(total_runs(layout, width, height), runs * places)
                self.assertEqual(mean_runs(layout, width, height), (runs, 1))
                self.assertEqual(fewest_runs(layout, width, height), (runs, places, (0, 0)))
                self.assertEqual(most_runs(layout, width, height), (runs, places, (0, 0)))
            self.assertLessEqual(best_anywhere(100, 100, width, height)[0], min(by_rows, by_columns) * places)

    def test_best_layouts_of_great_grids(self):
        chance = random.Random(56)
        for x_bits, y_bits in ((1, 100), (100, 1), (2, 30), (30, 2)):
            for _ in range(3):
                width = chance.choice(self.sizes(chance, x_bits))
                height = chance.choice(self.sizes(chance, y_bits))
                words = plain.words(x_bits, y_bits)
                totals = {word: great.total_at_places(word, width, height) for word in words}
                least = min(totals.values())
                those = sorted(word for word in words if totals[word] == least)
                told = (least, len(those), those[0])
                self.assertEqual(best_anywhere(x_bits, y_bits, width, height), told, (width, height))

    def test_best_layouts_of_the_greatest_grids(self):
        chance = random.Random(57)
        for width in chance.sample(self.sizes(chance, 100), 4):
            for height in chance.sample(self.sizes(chance, 100), 2):
                runs, many, word = best_anywhere(100, 100, width, height)
                self.assertEqual(total_runs(Layout(word), width, height), runs)
                given = great.neighbours(word) + [plain.some_word(chance, 100, 100) for _ in range(5)]
                for other in given + [rows(100, 100).word, columns(100, 100).word, laced(100, 100).word]:
                    self.assertLessEqual((runs, word), (total_runs(Layout(other), width, height), other))
        for size in (1, END):
            told = (END ** 2 if size == 1 else 1, comb(200, 100), "x" * 100 + "y" * 100)
            self.assertEqual(best_anywhere(100, 100, size, size), told)

    def test_how_long_an_answer_takes(self):
        for width, height in ((10 ** 30, 10 ** 29), (2 ** 99 + 1, 2 ** 98 - 1), (2 ** 50, 3)):
            for call in CALLS:
                for word in ("yx" * 100, "xxyy" * 50, "y" * 100 + "x" * 100):
                    begin = time.process_time()
                    call(Layout(word), width, height)
                    self.assertLess(time.process_time() - begin, 1, call)
            begin = time.process_time()
            best_anywhere(100, 100, width, height)
            self.assertLess(time.process_time() - begin, 2)


class ArgumentsTest(unittest.TestCase):
    def sizes(self, x_bits, y_bits):
        return [(InvalidSize, plain.wrong_integers(1, 2 ** bits)) for bits in (x_bits, y_bits)]

    def test_wrong_arguments_with_a_layout(self):
        for call in CALLS:
            for layout in (laced(2, 2), laced(100, 100), laced(2, 3), Layout("x"), Layout("yyy")):
                wrongs = [(InvalidLayout, plain.wrong_layouts())] + self.sizes(layout.x_bits, layout.y_bits)
                wrong.hold_errors(self, call, (layout, 1, 1), wrongs)

    def test_wrong_arguments_with_bits(self):
        bits = (InvalidBits, plain.wrong_bits())
        for x_bits, y_bits in ((2, 2), (100, 100), (3, 1), (0, 1)):
            wrongs = [bits, bits] + self.sizes(x_bits, y_bits)
            wrong.hold_errors(self, best_anywhere, (x_bits, y_bits, 1, 1), wrongs)
        wrong.hold_error(self, best_anywhere, (0, 0, 1, 1), InvalidBits)
        wrong.hold_error(self, best_anywhere, (0, 0, None, 0), InvalidBits)

    def test_sizes_that_are_right_in_one_direction_alone(self):
        for call in CALLS:
            self.assertTrue(call(laced(1, 2), 2, 4))
            wrong.hold_error(self, call, (laced(1, 2), 4, 2), InvalidSize)
            wrong.hold_error(self, call, (laced(2, 1), 2, 4), InvalidSize)
        self.assertEqual(best_anywhere(1, 2, 2, 4), (1, 3, "xyy"))
        wrong.hold_error(self, best_anywhere, (1, 2, 4, 2), InvalidSize)

    def test_what_is_passed_stays_as_it_is(self):
        layout = laced(2, 2)
        for call in CALLS:
            self.assertEqual(call(layout, 2, 3), call(layout, 2, 3))
        self.assertTrue(layout == Layout("yxyx"))

    def test_kinds_of_the_answers(self):
        layout = laced(2, 2)
        self.assertIs(type(total_runs(layout, 2, 3)), int)
        mean = mean_runs(layout, 2, 3)
        self.assertEqual((type(mean), [type(part) for part in mean]), (tuple, [int, int]))
        for told in (fewest_runs(layout, 2, 3), most_runs(layout, 2, 3)):
            self.assertEqual((type(told), [type(part) for part in told]), (tuple, [int, int, tuple]))
            self.assertEqual([type(part) for part in told[2]], [int, int])
        told = best_anywhere(2, 2, 2, 3)
        self.assertEqual((type(told), [type(part) for part in told]), (tuple, [int, int, str]))


if __name__ == "__main__":
    unittest.main()
