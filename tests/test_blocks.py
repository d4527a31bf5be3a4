import random
import unittest
from collections import Counter

from lacekeys.blocks import block_of, block_sizes, count_blocks, count_pages
from lacekeys.errors import InvalidBox, InvalidCell, InvalidLayout, InvalidNumber
from lacekeys.layouts import Layout, laced, rows
from tests import great, plain, wrong

SQUARE, BAR = (0, 0, 2, 2), (1, 0, 2, 3)
LAST = 2 ** 100 - 1
SMALL_BOXES = (SQUARE, BAR, (1, 2, 6, 4), (0, 3, 7, 7), (5, 5, 5, 5), (0, 0, 7, 7), (3, 1, 4, 6))


class ExampleTest(unittest.TestCase):
    def test_example(self):
        z = Layout("yxyx")
        told = [count_blocks(z, SQUARE), block_sizes(z, SQUARE), block_of(z, SQUARE, (1, 2))]
        told.append([count_pages(z, SQUARE, bits) for bits in range(5)])
        self.assertEqual(told, [5, [(0, 3), (1, 1), (2, 1)], (8, 9), [9, 6, 4, 2, 1]])


class SmallGridsTest(unittest.TestCase):
    def hold(self, word, keys, box):
        layout = Layout(word)
        told = plain.keys_of(keys, box)
        blocks = plain.plain_blocks(set(told), 0, len(word))
        self.assertEqual(count_blocks(layout, box), len(blocks), (word, box))
        self.assertEqual(block_sizes(layout, box), sorted(Counter(t for _, t in blocks).items()), (word, box))
        pages = [len({key >> bits for key in told}) for bits in range(len(word) + 1)]
        self.assertEqual([count_pages(layout, box, bits) for bits in range(len(word) + 1)], pages, (word, box))
        for cell, key in keys.items():
            if plain.is_in(cell, box):
                own = [(first, first + 2 ** t - 1) for first, t in blocks if first <= key < first + 2 ** t]
                self.assertEqual([block_of(layout, box, cell)], own, (word, box, cell))

    def test_all_boxes_of_all_words_of_a_few_letters(self):
        for word, keys, box in plain.all_cases(plain.small_words(4)):
            self.hold(word, keys, box)

    def test_some_boxes_of_many_words(self):
        chance = random.Random(31)
        given = plain.words(3, 3) + plain.words(4, 4) + plain.words(5, 2) + plain.words(1, 6)
        for word, keys, box in plain.some_cases(chance, given + ["xxxxxx", "yyyyyy"] * 6, 3):
            self.hold(word, keys, box)


class GreatGridsTest(unittest.TestCase):
    def test_great_boxes(self):
        for word, box in great.great_cases(random.Random(32)):
            layout = Layout(word)
            sizes = great.halved_blocks(word, box)
            self.assertEqual(block_sizes(layout, box), sizes, (word, box))
            self.assertEqual(count_blocks(layout, box), sum(many for _, many in sizes), (word, box))
            self.assertEqual(sum(many << t for t, many in block_sizes(layout, box)), great.area(box))

    def test_pages_of_great_boxes(self):
        for word, box in great.great_cases(random.Random(33))[::2]:
            layout = Layout(word)
            for bits in (0, 1, 2, 50, 98, 99, 100, 101, 150, 198, 199, 200):
                if bits <= len(word):
                    # Blocks that are cells of the grid of the letters in front have a box of these.
                    front = word[:len(word) - bits]
                    i, j = word.count("x") - front.count("x"), word.count("y") - front.count("y")
                    pages = great.area((box[0] // 2 ** i, box[1] // 2 ** j, box[2] // 2 ** i, box[3] // 2 ** j))
                    self.assertEqual(count_pages(layout, box, bits), pages)
            self.assertEqual(count_pages(layout, box, 0), great.area(box))
            self.assertEqual(count_pages(layout, box, len(word)), 1)

    def test_blocks_of_cells_of_great_boxes(self):
        chance = random.Random(34)
        for word, box in great.great_cases(chance)[1:]:
            layout = Layout(word)
            for cell in (box[:2], box[2:], plain.some_cell(chance, box), plain.some_cell(chance, box)):
                first, last = block_of(layout, box, cell)
                bits = (last - first).bit_length()
                self.assertEqual((last - first + 1, first % 2 ** bits), (2 ** bits, 0))
                self.assertTrue(first <= plain.plain_key(word, cell) <= last)
                self.assertIn(bits, [t for t, _ in block_sizes(layout, box)])
                self.assertEqual(great.cells_ahead(word, box, last) - great.cells_ahead(word, box, first), last - first)
                self.assertTrue(plain.is_in(great.plain_cell(word, last), box))
                if bits < len(word):
                    # The block of one bit more, of which it is a half, is not within the box.
                    first -= first % 2 ** (bits + 1)
                    corners = [great.plain_cell(word, key) for key in (first, first + 2 ** (bits + 1) - 1)]
                    self.assertFalse(all(plain.is_in(corner, box) for corner in corners))

    def test_letters_behind_scale_the_blocks_and_letters_in_front_shift_them(self):
        for word, box, bits, begin, small, small_box in great.scaled_cases(("xyyxxy", "yxyxyx"), SMALL_BOXES):
            layout = Layout(word)
            told = plain.keys_of(plain.listing(small), small_box)
            blocks = plain.plain_blocks(set(told), 0, len(small))
            self.assertEqual(count_blocks(layout, box), len(blocks))
            counts = Counter(t + bits for _, t in blocks)
            self.assertEqual(block_sizes(layout, box), sorted(counts.items()))
            for first, t in blocks:
                block = (begin + (first << bits), begin + ((first + 2 ** t) << bits) - 1)
                self.assertEqual(block_of(layout, box, layout.cell(sum(block) // 2)), block)
            for more in range(7):
                self.assertEqual(count_pages(layout, box, bits + more), len({key >> more for key in told}))

    def test_whole_grids(self):
        for word in ("yx" * 100, "y" * 100 + "x" * 100, "x" * 100, "y" * 100, "x", "y", "xy" * 3):
            layout, box, end = Layout(word), plain.whole_box(word), 2 ** len(word)
            self.assertEqual((count_blocks(layout, box), block_sizes(layout, box)), (1, [(len(word), 1)]))
            for key in (0, end // 3, end - 1):
                self.assertEqual(block_of(layout, box, layout.cell(key)), (0, end - 1))
            for bits in (0, 1, len(word)):
                self.assertEqual(count_pages(layout, box, bits), end >> bits)

    def test_boxes_of_one_cell(self):
        for word in ("yx" * 100, "y" * 100 + "x" * 100, "x" * 100, "y" * 100, "x", "y", "xy" * 3):
            layout, end = Layout(word), 2 ** len(word)
            for key in (0, end // 3, end - 1):
                cell = layout.cell(key)
                self.assertEqual((count_blocks(layout, cell + cell), block_sizes(layout, cell + cell)), (1, [(0, 1)]))
                self.assertEqual(block_of(layout, cell + cell, cell), (key, key))
                self.assertEqual([count_pages(layout, cell + cell, bits) for bits in (0, 1, len(word))], [1, 1, 1])

    def test_words_of_one_kind_of_letter(self):
        for layout, box in ((Layout("x" * 100), (1, 0, LAST - 1, 0)), (Layout("y" * 100), (0, 1, 0, LAST - 1))):
            self.assertEqual(count_blocks(layout, box), 198)
            self.assertEqual(block_sizes(layout, box), [(t, 2) for t in range(99)])
            self.assertEqual(block_of(layout, box, box[:2]), (1, 1))
            self.assertEqual(block_of(layout, box, box[2:]), (LAST - 1, LAST - 1))
            cell = layout.cell(2 ** 99)
            self.assertEqual(block_of(layout, box, cell), (2 ** 99, 2 ** 99 + 2 ** 98 - 1))
            self.assertEqual([count_pages(layout, box, bits) for bits in (0, 1, 99, 100)], [LAST - 1, 2 ** 99, 2, 1])

    def test_rows(self):
        self.assertEqual(block_sizes(rows(100, 100), (0, 5, LAST, 8)), [(100, 2), (101, 1)])
        self.assertEqual(block_sizes(rows(100, 100), (1, 5, 2, 10 ** 30)), [(0, 2 * (10 ** 30 - 4))])
        self.assertEqual(count_pages(rows(100, 100), (1, 5, 2, 10 ** 30), 1), 2 * (10 ** 30 - 4))
        self.assertEqual(count_pages(rows(100, 100), (1, 5, 2, 10 ** 30), 100), 10 ** 30 - 4)


class ArgumentsTest(unittest.TestCase):
    def common(self, layout):
        return [(InvalidLayout, plain.wrong_layouts()), (InvalidBox, plain.wrong_boxes(layout.x_bits, layout.y_bits))]

    def test_lists_are_new_each_time(self):
        layout = laced(2, 2)
        first = block_sizes(layout, SQUARE)
        self.assertIs(type(first), list)
        self.assertEqual({type(size) for size in first}, {tuple})
        first[0] = None
        first.append(1)
        self.assertEqual(block_sizes(layout, SQUARE), [(0, 3), (1, 1), (2, 1)])
        self.assertEqual(count_blocks(layout, SQUARE), 5)

    def test_what_is_passed_stays_as_it_is(self):
        layout, box, cell = laced(2, 2), (1, 0, 2, 3), (2, 1)
        for call, more in ((count_blocks, ()), (block_sizes, ()), (block_of, (cell,)), (count_pages, (2,))):
            self.assertEqual(call(layout, box, *more), call(layout, box, *more))
        self.assertTrue(layout == Layout("yxyx"))
        self.assertEqual((box, cell), ((1, 0, 2, 3), (2, 1)))

    def test_wrong_arguments_of_the_counts(self):
        for call in (count_blocks, block_sizes):
            for layout in (laced(2, 2), laced(100, 100), Layout("x"), Layout("y")):
                wrong.hold_errors(self, call, (layout, (0, 0, 0, 0)), self.common(layout))

    def test_wrong_arguments_of_block_of(self):
        for layout, box, outside in (
            (laced(2, 2), BAR, [(0, 0), (3, 0), (0, 3), (3, 3), (0, 2), (3, 1)]),
            (laced(2, 2), (0, 1, 3, 2), [(0, 0), (0, 3), (3, 0), (3, 3), (2, 0), (1, 3)]),
            (laced(100, 100), (1, 1, LAST - 1, LAST - 1), [(0, 1), (1, 0), (LAST, 1), (1, LAST), (0, LAST), (LAST, 0)]),
        ):
            cells = (InvalidCell, plain.wrong_cells(layout.x_bits, layout.y_bits) + outside)
            wrong.hold_errors(self, block_of, (layout, box, (1, 1)), self.common(layout) + [cells])

    def test_wrong_arguments_of_count_pages(self):
        for layout in (laced(2, 2), laced(100, 100), Layout("x"), Layout("yyy")):
            most = layout.x_bits + layout.y_bits
            self.assertEqual(count_pages(layout, (0, 0, 0, 0), most), 1)
            numbers = (InvalidNumber, plain.wrong_integers(0, most))
            wrong.hold_errors(self, count_pages, (layout, (0, 0, 0, 0), 0), self.common(layout) + [numbers])


if __name__ == "__main__":
    unittest.main()
