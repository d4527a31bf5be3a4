import random
import unittest

from lacekeys.errors import InvalidBox, InvalidIndex, InvalidKey, InvalidLayout
from lacekeys.layouts import Layout, columns, laced, rows
from lacekeys.ranks import cell_at, last_cell, next_cell, rank
from lacekeys.runs import ends
from tests import great, plain, wrong

BAR = (1, 0, 2, 3)
LAST = 2 ** 100 - 1


class ExampleTest(unittest.TestCase):
    def test_example(self):
        z = Layout("yxyx")
        told = [rank(z, BAR, 9), cell_at(z, BAR, 4), next_cell(z, BAR, 7), last_cell(z, BAR, 8), last_cell(z, BAR, 0)]
        self.assertEqual(told, [4, (1, 2), (1, 2), (2, 1), None])


class SmallGridsTest(unittest.TestCase):
    def hold(self, word, keys, box):
        layout = Layout(word)
        told = plain.keys_of(keys, box)
        cells = {key: cell for cell, key in keys.items()}
        self.assertEqual([cell_at(layout, box, index) for index in range(len(told))], [cells[key] for key in told])
        for key in cells:
            self.assertEqual(rank(layout, box, key), sum(1 for one in told if one < key), (word, box, key))
            least = min((one for one in told if one >= key), default=None)
            self.assertEqual(next_cell(layout, box, key), cells.get(least), (word, box, key))
            greatest = max((one for one in told if one <= key), default=None)
            self.assertEqual(last_cell(layout, box, key), cells.get(greatest), (word, box, key))

    def test_all_boxes_of_all_words_of_a_few_letters(self):
        for word, keys, box in plain.all_cases(plain.small_words(4)):
            self.hold(word, keys, box)

    def test_some_boxes_of_many_words(self):
        chance = random.Random(41)
        given = plain.words(3, 3) + plain.words(4, 3) + plain.words(5, 1) + plain.words(1, 6)
        for word, keys, box in plain.some_cases(chance, given + ["xxxxxx", "yyyyyy"] * 3, 3):
            self.hold(word, keys, box)


class GreatGridsTest(unittest.TestCase):
    def hold_key(self, word, box, key):
        """Hold what is told of a key against the number of cells with less keys."""
        layout = Layout(word)
        less = great.cells_ahead(word, box, key)
        self.assertEqual(rank(layout, box, key), less)
        following, former = next_cell(layout, box, key), last_cell(layout, box, key)
        if plain.is_in(great.plain_cell(word, key), box):
            self.assertEqual((following, former), (great.plain_cell(word, key),) * 2)
            self.assertEqual(cell_at(layout, box, less), following)
            return
        if following is None:
            self.assertEqual(less, great.area(box))
        else:
            self.assertGreater(plain.plain_key(word, following), key)
            self.hold_cell(word, box, following, less)
        if former is None:
            self.assertEqual(less, 0)
        else:
            self.assertLess(plain.plain_key(word, former), key)
            self.hold_cell(word, box, former, less - 1)

    def hold_cell(self, word, box, cell, index):
        """Hold a cell of a box against its index."""
        self.assertTrue(plain.is_in(cell, box))
        self.assertEqual(great.cells_ahead(word, box, plain.plain_key(word, cell)), index)
        self.assertEqual(cell_at(Layout(word), box, index), cell)

    def test_great_boxes(self):
        chance = random.Random(42)
        for word, box in great.great_cases(chance):
            layout, end = Layout(word), 2 ** len(word)
            first, last = ends(layout, box)
            for key in {0, end - 1, first, last, max(0, first - 1), min(end - 1, last + 1), chance.randrange(end)}:
                self.hold_key(word, box, key)
            for _ in range(2):
                self.hold_key(word, box, chance.randrange(first, last + 1))
                index = chance.randrange(great.area(box))
                self.hold_cell(word, box, cell_at(layout, box, index), index)

    def test_ends_of_boxes(self):
        for word, box in great.great_cases(random.Random(43)):
            layout, end = Layout(word), 2 ** len(word)
            first, last = ends(layout, box)
            self.assertEqual([rank(layout, box, first), rank(layout, box, last)], [0, great.area(box) - 1])
            self.assertEqual([cell_at(layout, box, 0), cell_at(layout, box, great.area(box) - 1)], [box[:2], box[2:]])
            self.assertEqual([next_cell(layout, box, 0), last_cell(layout, box, end - 1)], [box[:2], box[2:]])
            if first > 0:
                self.assertIsNone(last_cell(layout, box, first - 1))
            if last < end - 1:
                self.assertIsNone(next_cell(layout, box, last + 1))
                self.assertEqual(rank(layout, box, last + 1), great.area(box))

    def test_rows_and_columns(self):
        box, wide, high, end = (5, 7, 10 ** 30, 10 ** 29), 10 ** 30 - 4, 10 ** 29 - 6, 2 ** 100
        self.assertEqual(rank(rows(100, 100), box, 9 * end + 8), 2 * wide + 3)
        self.assertEqual(cell_at(rows(100, 100), box, 2 * wide + 3), (8, 9))
        self.assertEqual(next_cell(rows(100, 100), box, 9 * end + 10 ** 30 + 1), (5, 10))
        self.assertEqual(last_cell(rows(100, 100), box, 9 * end + 4), (10 ** 30, 8))
        self.assertEqual(rank(columns(100, 100), box, 9 * end + 8), 4 * high + 1)
        self.assertEqual(cell_at(columns(100, 100), box, 4 * high + 1), (9, 8))

    def test_whole_grids(self):
        for word in ("yx" * 100, "y" * 100 + "x" * 100, "x" * 100, "y" * 100, "x", "y"):
            layout, box, end = Layout(word), plain.whole_box(word), 2 ** len(word)
            for key in (0, 1, end // 3, end // 2, end - 1):
                self.assertEqual(rank(layout, box, key), key)
                cells = [cell_at(layout, box, key), next_cell(layout, box, key), last_cell(layout, box, key)]
                self.assertEqual(cells, [layout.cell(key)] * 3)

    def test_boxes_of_one_cell(self):
        for word in ("yx" * 100, "y" * 100 + "x" * 100, "x" * 100, "y" * 100):
            layout, end = Layout(word), 2 ** len(word)
            for key in (1, end // 3, end // 2, end - 2):
                cell = layout.cell(key)
                box = cell + cell
                self.assertEqual([rank(layout, box, one) for one in (0, key, key + 1, end - 1)], [0, 0, 1, 1])
                self.assertEqual(cell_at(layout, box, 0), cell)
                self.assertEqual([next_cell(layout, box, one) for one in (0, key, key + 1)], [cell, cell, None])
                self.assertEqual([last_cell(layout, box, one) for one in (key - 1, key, end - 1)], [None, cell, cell])

    def test_words_of_one_kind_of_letter(self):
        low, high = 10 ** 20, 10 ** 30
        for layout, box in ((Layout("x" * 100), (low, 0, high, 0)), (Layout("y" * 100), (0, low, 0, high))):
            keys = (0, low - 1, low, low + 7, high, high + 1, LAST)
            cells = high - low + 1
            self.assertEqual([rank(layout, box, key) for key in keys], [0, 0, 0, 7, cells - 1, cells, cells])
            self.assertEqual(cell_at(layout, box, 7), layout.cell(low + 7))
            told = [next_cell(layout, box, key) for key in keys]
            self.assertEqual(told, [box[:2]] * 3 + [layout.cell(low + 7), box[2:], None, None])
            told = [last_cell(layout, box, key) for key in keys]
            self.assertEqual(told, [None, None, box[:2], layout.cell(low + 7), box[2:], box[2:], box[2:]])


class ArgumentsTest(unittest.TestCase):
    def common(self, layout):
        return [(InvalidLayout, plain.wrong_layouts()), (InvalidBox, plain.wrong_boxes(layout.x_bits, layout.y_bits))]

    def test_wrong_arguments_of_the_calls_with_a_key(self):
        for call in (rank, next_cell, last_cell):
            for layout in (laced(2, 2), laced(100, 100), Layout("x"), Layout("yyy")):
                keys = (InvalidKey, plain.wrong_keys(layout.x_bits, layout.y_bits))
                wrong.hold_errors(self, call, (layout, (0, 0, 0, 0), 0), self.common(layout) + [keys])

    def test_wrong_arguments_of_cell_at(self):
        for layout, box, cells in ((laced(2, 2), BAR, 8), (rows(100, 100), (1, 1, LAST, LAST), LAST * LAST)):
            self.assertEqual(cell_at(layout, box, cells - 1), box[2:])
            indexes = (InvalidIndex, plain.wrong_integers(0, cells - 1))
            wrong.hold_errors(self, cell_at, (layout, box, 0), self.common(layout) + [indexes])

    def test_kinds_of_the_answers(self):
        layout = laced(2, 2)
        self.assertIs(type(rank(layout, BAR, 9)), int)
        for cell in (cell_at(layout, BAR, 4), next_cell(layout, BAR, 7), last_cell(layout, BAR, 8)):
            self.assertIs(type(cell), tuple)
            self.assertEqual([type(number) for number in cell], [int, int])

    def test_what_is_passed_stays_as_it_is(self):
        layout, box = laced(2, 2), (1, 0, 2, 3)
        for call in (rank, cell_at, next_cell, last_cell):
            self.assertEqual(call(layout, box, 5), call(layout, box, 5))
        self.assertTrue(layout == Layout("yxyx"))
        self.assertEqual(box, (1, 0, 2, 3))


if __name__ == "__main__":
    unittest.main()
