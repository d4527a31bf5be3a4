import random
import time
import unittest
from math import comb

from lacekeys.best import best_blocks, best_layout, best_page, load_blocks, load_runs, nth_best, worst_layout
from lacekeys.blocks import count_blocks, count_pages
from lacekeys.errors import InvalidBits, InvalidIndex, InvalidLayout, InvalidLoad, InvalidNumber
from lacekeys.layouts import Layout, columns, laced, rows
from lacekeys.runs import count_runs
from tests import great, plain, wrong

SQUARE, BAR = (0, 0, 2, 2), (1, 0, 2, 3)
LAST = 2 ** 100 - 1
CALLS = (best_layout, worst_layout, best_blocks)


def extreme(told, least):
    """Return the tuple (least or greatest one, how many words have it, the first of these), by a dict of words."""
    end = min(told.values()) if least else max(told.values())
    those = sorted(word for word in told if told[word] == end)
    return (end, len(those), those[0])


class ExampleTest(unittest.TestCase):
    def test_example(self):
        one, two = [(SQUARE, 1)], [(SQUARE, 1), (BAR, 2)]
        told = [best_layout(2, 2, one), nth_best(2, 2, one, 1), worst_layout(2, 2, one), best_layout(2, 2, two)]
        told.append(load_runs(Layout("yxyx"), two))
        self.assertEqual(told, [(3, 2, "xxyy"), "yyxx", (4, 4, "xyxy"), (5, 1, "xxyy"), 16])
        self.assertEqual([best_blocks(2, 2, one), best_page(2, 2, one, 2)], [(5, 4, "xyxy"), (3, 0, 2)])


class SmallGridsTest(unittest.TestCase):
    def setUp(self):
        self.listings = {}

    def keys(self, word, box):
        if word not in self.listings:
            self.listings[word] = plain.listing(word)
        return plain.keys_of(self.listings[word], box)

    def hold(self, x_bits, y_bits, load):
        """Hold all functions against all words, one by one."""
        runs, blocks, pages = {}, {}, [{} for _ in range(x_bits + y_bits + 1)]
        for word in plain.words(x_bits, y_bits):
            told = [(self.keys(word, box), weight) for box, weight in load]
            runs[word] = sum(weight * len(plain.stretches(keys)) for keys, weight in told)
            blocks[word] = sum(weight * len(plain.plain_blocks(set(keys), 0, len(word))) for keys, weight in told)
            for bits, counts in enumerate(pages):
                shape = (word[len(word) - bits:].count("x"), word[len(word) - bits:].count("y"))
                many = sum(weight * len({key >> bits for key in keys}) for keys, weight in told)
                self.assertEqual(counts.setdefault(shape, many), many)
            self.assertEqual(load_runs(Layout(word), load), runs[word])
            self.assertEqual(load_blocks(Layout(word), load), blocks[word])
        self.assertEqual(best_layout(x_bits, y_bits, load), extreme(runs, True), load)
        self.assertEqual(worst_layout(x_bits, y_bits, load), extreme(runs, False), load)
        self.assertEqual(best_blocks(x_bits, y_bits, load), extreme(blocks, True), load)
        those = sorted(word for word in runs if runs[word] == min(runs.values()))
        self.assertEqual([nth_best(x_bits, y_bits, load, index) for index in range(len(those))], those)
        with self.assertRaises(InvalidIndex):
            nth_best(x_bits, y_bits, load, len(those))
        for bits, counts in enumerate(pages):
            least = min((many, i, j) for (i, j), many in counts.items())
            self.assertEqual(best_page(x_bits, y_bits, load, bits), least, (load, bits))

    def test_all_boxes_alone_on_the_smallest_grids(self):
        for x_bits, y_bits in ((1, 0), (0, 1), (1, 1), (2, 0), (0, 2), (2, 1), (1, 2), (2, 2), (3, 0), (0, 3), (3, 1)):
            for box in plain.all_boxes(x_bits, y_bits):
                self.hold(x_bits, y_bits, [(box, 1)])

    def test_some_loads_on_small_grids(self):
        chance = random.Random(41)
        for x_bits in range(5):
            for y_bits in range(max(0, 1 - x_bits), 5 - x_bits):
                for many in (1, 2, 3, 7, 19, 20):
                    self.hold(x_bits, y_bits, plain.some_load(chance, "x" * x_bits + "y" * y_bits, many))

    def test_some_loads_on_grids_of_more_letters(self):
        chance = random.Random(42)
        for x_bits, y_bits in ((3, 3), (2, 4), (4, 2), (5, 1), (1, 5), (6, 0), (0, 6), (3, 4), (4, 3)):
            for many in (1, 2, 4):
                self.hold(x_bits, y_bits, plain.some_load(chance, "x" * x_bits + "y" * y_bits, many))

    def test_equal_and_nested_boxes(self):
        for weights in ((1, 1), (1, 10 ** 30), (10 ** 30, 10 ** 30), (2, 1)):
            for boxes in ((SQUARE, SQUARE), (SQUARE, BAR), ((0, 0, 3, 3), (1, 1, 2, 2)), ((0, 0, 0, 0), (3, 3, 3, 3))):
                self.hold(2, 2, list(zip(boxes, weights)))

    def test_weights_decide(self):
        row, column = (0, 1, 3, 1), (1, 0, 1, 3)
        self.assertEqual(best_layout(2, 2, [(row, 10 ** 30), (column, 10 ** 30 - 1)])[2], "yyxx")
        self.assertEqual(best_layout(2, 2, [(row, 10 ** 30 - 1), (column, 10 ** 30)])[2], "xxyy")
        self.assertEqual(worst_layout(2, 2, [(row, 10 ** 30), (column, 10 ** 30 - 1)])[2], "xyxy")
        self.assertEqual(worst_layout(2, 2, [(row, 10 ** 30 - 1), (column, 10 ** 30)])[2], "xyyx")


class GreatGridsTest(unittest.TestCase):
    def loads(self, chance, x_bits, y_bits):
        """Return loads of great boxes: some, one at the ends, and one of the whole grid and a cell."""
        word = "x" * x_bits + "y" * y_bits
        x1, y1, x2, y2 = plain.whole_box(word)
        ends = [(min(1, x2), min(1, y2), x2, y2), (0, 0, x2 - x2 // 3, y2), (x2 // 2, y2 // 2, x2, y2 - y2 // 5)]
        return [
            plain.some_load(chance, word, 1), plain.some_load(chance, word, 3),
            [(box, weight) for box, weight in zip(ends, (1, 10 ** 30, 10 ** 15))],
            [((x1, y1, x2, y2), 3), ((x2 // 2, y2 // 2, x2 // 2, y2 // 2), 1), ((x2, y2, x2, y2), 10 ** 30)],
        ]

    def test_all_words_of_few_letters_of_one_kind(self):
        chance = random.Random(43)
        for x_bits, y_bits in ((1, 100), (100, 1), (2, 25), (25, 2), (100, 0), (0, 100)):
            for load in self.loads(chance, x_bits, y_bits):
                layouts = [Layout(word) for word in plain.words(x_bits, y_bits)]
                runs = {layout.word: load_runs(layout, load) for layout in layouts}
                blocks = {layout.word: load_blocks(layout, load) for layout in layouts}
                self.assertEqual(best_layout(x_bits, y_bits, load), extreme(runs, True))
                self.assertEqual(worst_layout(x_bits, y_bits, load), extreme(runs, False))
                self.assertEqual(best_blocks(x_bits, y_bits, load), extreme(blocks, True))
                those = sorted(word for word in runs if runs[word] == min(runs.values()))
                for index in {0, len(those) // 3, len(those) - 1}:
                    self.assertEqual(nth_best(x_bits, y_bits, load, index), those[index])

    def test_words_told_from_the_front(self):
        chance = random.Random(44)
        for x_bits, y_bits in ((14, 17), (20, 9)):
            for load in self.loads(chance, x_bits, y_bits):
                gains, area = {}, sum(weight * great.area(box) for box, weight in load)
                for box, weight in load:
                    for foot, many in great.saved_by_feet(x_bits, y_bits, box).items():
                        gains[foot] = gains.get(foot, 0) + weight * many
                saved, many, word = great.best_from_the_front(x_bits, y_bits, gains)
                self.assertEqual(best_layout(x_bits, y_bits, load), (area - saved, many, word))
                losses = {foot: -gain for foot, gain in gains.items()}
                saved, many, word = great.best_from_the_front(x_bits, y_bits, losses)
                self.assertEqual(worst_layout(x_bits, y_bits, load), (area + saved, many, word))

    def test_best_and_worst_of_great_grids(self):
        chance = random.Random(45)
        for load in self.loads(chance, 100, 100) + [plain.some_load(chance, "xy" * 100, 20)]:
            best, worst, fewest = [call(100, 100, load) for call in CALLS]
            self.assertEqual(load_runs(Layout(best[2]), load), best[0])
            self.assertEqual(load_runs(Layout(worst[2]), load), worst[0])
            self.assertEqual(load_blocks(Layout(fewest[2]), load), fewest[0])
            told = [rows(100, 100).word, columns(100, 100).word, laced(100, 100).word]
            told += [plain.some_word(chance, 100, 100) for _ in range(5)]
            for word in told + great.neighbours(best[2]) + great.neighbours(worst[2]) + great.neighbours(fewest[2]):
                runs = load_runs(Layout(word), load)
                self.assertTrue(best[0] <= runs <= worst[0])
                # The first by alphabet is ahead of all others.
                self.assertTrue(runs > best[0] or word >= best[2])
                self.assertTrue(runs < worst[0] or word >= worst[2])
                self.assertTrue((fewest[0], fewest[2]) <= (load_blocks(Layout(word), load), word))

    def test_words_with_an_index(self):
        chance = random.Random(46)
        for load in self.loads(chance, 100, 100) + [[((0, 0, 1, 1), 1)], [((0, 0, 2 ** 50 - 1, 2 ** 50 - 1), 1)]]:
            runs, many, word = best_layout(100, 100, load)
            self.assertEqual(nth_best(100, 100, load, 0), word)
            ends = {0, 1, 2, many // 3, many // 2, many - 2, many - 1}
            chosen = sorted(index for index in ends if 0 <= index < many)
            told = [nth_best(100, 100, load, index) for index in chosen]
            self.assertEqual(told, sorted(set(told)))
            for word in told:
                self.assertEqual(load_runs(Layout(word), load), runs)

    def test_all_words_are_the_same_for_a_cell_and_for_the_whole_grid(self):
        for x_bits, y_bits in ((100, 100), (100, 0), (0, 100), (100, 3), (5, 100), (1, 1)):
            many = comb(x_bits + y_bits, x_bits)
            whole = plain.whole_box("x" * x_bits + "y" * y_bits)
            first, last = "x" * x_bits + "y" * y_bits, "y" * y_bits + "x" * x_bits
            for load in ([(whole, 7)], [(whole[2:] * 2, 7)], [(whole[:2] * 2, 3), (whole, 4)]):
                for call in CALLS:
                    self.assertEqual(call(x_bits, y_bits, load), (7, many, first))
                self.assertEqual(nth_best(x_bits, y_bits, load, many - 1), last)
                chance = random.Random(47)
                for index in {0, many // 2, chance.randrange(many)}:
                    word = nth_best(x_bits, y_bits, load, index)
                    self.assertEqual(great.place_by_alphabet(word), index)

    def test_a_row_and_a_column(self):
        # A row falls into 2 ** 100 runs or blocks, less by a half for each letter x at the end; a column likewise.
        end, first, second = 2 ** 100, "x" * 100 + "y" * 100, "y" * 100 + "x" * 100
        row, column = (0, 5, LAST, 5), (10 ** 30, 0, 10 ** 30, LAST)
        for a, b, word in ((3, 2, second), (2, 3, first), (10 ** 30, 1, second), (1, 10 ** 30, first)):
            load = [(row, a), (column, b)]
            least, greatest = max(a, b) + min(a, b) * end, max(a, b) * end + min(a, b) * end // 2
            self.assertEqual([best_layout(100, 100, load), best_blocks(100, 100, load)], [(least, 1, word)] * 2)
            worst = "x" * 99 + "y" * 99 + ("xy" if a > b else "yx")
            self.assertEqual(worst_layout(100, 100, load), (greatest, comb(198, 99), worst))
        load = [(row, 7), (column, 7)]
        self.assertEqual([best_layout(100, 100, load), best_blocks(100, 100, load)], [(7 + 7 * end, 2, first)] * 2)
        self.assertEqual([nth_best(100, 100, load, index) for index in (0, 1)], [first, second])
        worst = (7 * end + 7 * end // 2, 2 * comb(198, 99), "x" * 99 + "y" * 99 + "xy")
        self.assertEqual(worst_layout(100, 100, load), worst)

    def test_pages(self):
        chance = random.Random(48)
        for x_bits, y_bits in ((100, 100), (100, 30), (3, 100), (100, 0), (0, 100)):
            for load in self.loads(chance, x_bits, y_bits):
                for bits in {0, 1, 2, 50, 99, 100, 101, 150, x_bits + y_bits - 1, x_bits + y_bits}:
                    if bits > x_bits + y_bits:
                        continue
                    told = []
                    for i in range(max(0, bits - y_bits), min(bits, x_bits) + 1):
                        word = "x" * (x_bits - i) + "y" * (y_bits - bits + i) + "y" * (bits - i) + "x" * i
                        pages = sum(weight * count_pages(Layout(word), box, bits) for box, weight in load)
                        told.append((pages, i, bits - i))
                    self.assertEqual(best_page(x_bits, y_bits, load, bits), min(told))

    def test_loads_are_sums(self):
        chance = random.Random(49)
        for word in ("xy" * 100, "y" * 100 + "x" * 100, "x" * 100, "y" * 100, plain.some_word(chance, 37, 100)):
            layout, load = Layout(word), plain.some_load(chance, word, 20)
            self.assertEqual(load_runs(layout, load), sum(weight * count_runs(layout, box) for box, weight in load))
            self.assertEqual(load_blocks(layout, load), sum(weight * count_blocks(layout, box) for box, weight in load))

    def test_how_long_an_answer_takes(self):
        load = plain.some_load(random.Random(50), "xy" * 100, 20)
        calls = [(call, ()) for call in CALLS] + [(nth_best, (0,)), (best_page, (100,))]
        for call, more in calls:
            begin = time.process_time()
            call(100, 100, load, *more)
            self.assertLess(time.process_time() - begin, 2, call)
        for call in (load_runs, load_blocks):
            begin = time.process_time()
            call(laced(100, 100), load)
            self.assertLess(time.process_time() - begin, 1, call)


class ArgumentsTest(unittest.TestCase):
    def loads(self, x_bits, y_bits):
        """Return what wrong.hold_errors takes for the load."""
        told = plain.wrong_lists(((0, 0, 0, 0), 1), plain.wrong_items(x_bits, y_bits), 20)
        return [(InvalidLoad(item), [value]) for value, item in told]

    def bits(self):
        bits = (InvalidBits, plain.wrong_bits())
        return [bits, bits]

    def test_wrong_arguments_with_a_layout(self):
        for call in (load_runs, load_blocks):
            for layout in (laced(2, 2), laced(100, 100), Layout("x"), Layout("yyy")):
                right = (layout, [((0, 0, 0, 0), 1)])
                loads = self.loads(layout.x_bits, layout.y_bits)
                wrong.hold_errors(self, call, right, [(InvalidLayout, plain.wrong_layouts()), loads])

    def test_wrong_arguments_with_bits(self):
        for call in CALLS:
            for x_bits, y_bits in ((2, 2), (100, 100), (0, 1)):
                right = (x_bits, y_bits, [((0, 0, 0, 0), 1)])
                wrong.hold_errors(self, call, right, self.bits() + [self.loads(x_bits, y_bits)])

    def test_wrong_arguments_of_nth_best(self):
        for x_bits, y_bits, box, many in ((2, 2, SQUARE, 2), (2, 2, (0, 0, 3, 3), 6), (1, 0, (0, 0, 1, 0), 1)):
            self.assertEqual(best_layout(x_bits, y_bits, [(box, 1)])[1], many)
            indexes = (InvalidIndex, plain.wrong_integers(0, many - 1))
            right = (x_bits, y_bits, [(box, 1)], 0)
            wrong.hold_errors(self, nth_best, right, self.bits() + [self.loads(x_bits, y_bits), indexes])

    def test_wrong_arguments_of_best_page(self):
        for x_bits, y_bits in ((2, 2), (100, 100), (0, 3)):
            numbers = (InvalidNumber, plain.wrong_integers(0, x_bits + y_bits))
            right = (x_bits, y_bits, [((0, 0, 0, 0), 1)], 0)
            wrong.hold_errors(self, best_page, right, self.bits() + [self.loads(x_bits, y_bits), numbers])

    def test_no_bits_at_all(self):
        for call, more in [(call, ()) for call in CALLS] + [(nth_best, (0,)), (best_page, (0,))]:
            for load in ([((0, 0, 0, 0), 1)], None, []):
                wrong.hold_error(self, call, (0, 0, load) + more, InvalidBits)

    def test_bounds_that_are_right(self):
        box = (0, 0, LAST, LAST)
        for load in ([(box, 1)], [(box, 10 ** 30)] * 20, [(box, 10 ** 30), ((LAST, LAST, LAST, LAST), 1)]):
            total = sum(weight for _, weight in load)
            self.assertEqual([call(100, 100, load)[0] for call in CALLS], [total] * 3)
            self.assertEqual(best_page(100, 100, load, 200), (total, 100, 100))
            self.assertEqual(load_runs(laced(100, 100), load), total)
            self.assertEqual(load_blocks(laced(100, 100), load), total)

    def test_what_is_passed_stays_as_it_is(self):
        layout, load = laced(2, 2), [(SQUARE, 1), (BAR, 2)]
        for call, more in [(call, ()) for call in CALLS] + [(nth_best, (0,)), (best_page, (2,))]:
            self.assertEqual(call(2, 2, load, *more), call(2, 2, load, *more))
        for call in (load_runs, load_blocks):
            self.assertEqual(call(layout, load), call(layout, load))
        self.assertEqual(load, [((0, 0, 2, 2), 1), ((1, 0, 2, 3), 2)])
        self.assertTrue(layout == Layout("yxyx"))

    def test_kinds_of_the_answers(self):
        load = [(SQUARE, 1), (BAR, 2)]
        for call in CALLS:
            told = call(2, 2, load)
            self.assertEqual((type(told), [type(part) for part in told]), (tuple, [int, int, str]))
        told = best_page(2, 2, load, 1)
        self.assertEqual((type(told), [type(part) for part in told]), (tuple, [int, int, int]))
        self.assertIs(type(nth_best(2, 2, load, 0)), str)
        self.assertEqual([type(call(laced(2, 2), load)) for call in (load_runs, load_blocks)], [int, int])


if __name__ == "__main__":
    unittest.main()
