import random
import unittest

from lacekeys.errors import InvalidBits, InvalidCell, InvalidKey, InvalidWord
from lacekeys.layouts import Layout, columns, laced, rows, tiled
from tests import plain


class WordTest(unittest.TestCase):
    def test_word_and_bits(self):
        for word in plain.small_words(5) + ["x" * 100, "y" * 100, "xy" * 100, "x" * 100 + "y" * 100]:
            with self.subTest(word):
                layout = Layout(word)
                self.assertEqual((layout.word, layout.x_bits, layout.y_bits), (word, word.count("x"), word.count("y")))

    def test_word_and_bits_are_properties(self):
        for name in ("word", "x_bits", "y_bits"):
            with self.subTest(name):
                self.assertIsInstance(vars(Layout)[name], property)
                with self.assertRaises(AttributeError):
                    setattr(Layout("xy"), name, 1)

    def test_methods_are_defined_in_the_class(self):
        for name in ("__init__", "__eq__", "key", "cell"):
            self.assertIn(name, vars(Layout))

    def test_most_letters(self):
        for word in ("x" * 101, "y" * 101, "xy" * 101, "x" * 100 + "y" * 101, "x" * 101 + "y" * 100, "x" * 10000):
            with self.subTest(word), self.assertRaises(InvalidWord):
                Layout(word)

    def test_other_strings(self):
        beside = ("xyx ", " xyx", "x y", "xy\n", "\nxy", "x0", "x,y", "xx\u0445")
        for word in ("", " ", "X", "Y", "xY", "xz", "zx", "0") + beside:
            with self.subTest(word), self.assertRaises(InvalidWord):
                Layout(word)

    def test_values_of_other_kinds(self):
        kinds = [value for value in plain.strangers() if value != "x"]
        for word in kinds + [0, 1, -1, ["x"], ["x", "y"], ("x", "y"), {"x": 1}, b"xy", Layout("xy"), (), (0, 0)]:
            with self.subTest(word), self.assertRaises(InvalidWord):
                Layout(word)


class EqualTest(unittest.TestCase):
    def test_same_word(self):
        everything = plain.small_words(4)
        for one in everything:
            for two in everything:
                self.assertIs(Layout(one) == Layout("".join(list(two))), one == two)
                self.assertIs(Layout(one) != Layout(two), one != two)

    def test_built_in_different_ways(self):
        self.assertTrue(rows(2, 2) == Layout("yyxx"))
        self.assertTrue(tiled(2, 2, 1, 1) == laced(2, 2))
        self.assertFalse(rows(2, 2) == columns(2, 2))

    def test_any_value(self):
        for value in plain.wrong_layouts():
            with self.subTest(value):
                self.assertIs(Layout("yxyx") == value, False)
                self.assertIs(value == Layout("yxyx"), False)


class KeyTest(unittest.TestCase):
    def test_example(self):
        z = Layout("yxyx")
        told = [z.key((2, 1)), z.cell(9)]
        self.assertEqual(told, [6, (1, 2)])

    def test_table_of_the_document(self):
        z = Layout("yxyx")
        table = [[z.key((x, y)) for x in range(4)] for y in range(4)]
        self.assertEqual(table, [[0, 1, 4, 5], [2, 3, 6, 7], [8, 9, 12, 13], [10, 11, 14, 15]])

    def test_small_grids(self):
        for word in plain.small_words(6) + ["xxyyxxyy", "yxxxxyyx", "xxxxxxxx", "yyyyyyyy"]:
            layout = Layout(word)
            keys = plain.listing(word)
            with self.subTest(word):
                self.assertEqual({cell: layout.key(cell) for cell in keys}, keys)
                self.assertEqual({layout.cell(key): key for key in range(2 ** len(word))}, keys)

    def test_great_grids(self):
        chance = random.Random(1)
        letters = list("x" * 100 + "y" * 100)
        for turn in range(20):
            chance.shuffle(letters)
            word = "".join(letters)
            cell = (chance.getrandbits(100), chance.getrandbits(100))
            key = plain.plain_key(word, cell)
            with self.subTest(word, cell=cell):
                self.assertEqual(Layout(word).key(cell), key)
                self.assertEqual(Layout(word).cell(key), cell)

    def test_words_of_one_kind_of_letter(self):
        for number in (0, 1, 2, 3, 2 ** 99, 2 ** 100 - 2, 2 ** 100 - 1):
            self.assertEqual(Layout("x" * 100).key((number, 0)), number)
            self.assertEqual(Layout("x" * 100).cell(number), (number, 0))
            self.assertEqual(Layout("y" * 100).key((0, number)), number)
            self.assertEqual(Layout("y" * 100).cell(number), (0, number))

    def test_ends_of_the_grid(self):
        for word in ("x", "y", "xy", "yx", "yxyx", "xxy", "xy" * 100, "x" * 100, "y" * 100, "y" * 100 + "x"):
            layout = Layout(word)
            last = (2 ** layout.x_bits - 1, 2 ** layout.y_bits - 1)
            with self.subTest(word):
                self.assertEqual(layout.key((0, 0)), 0)
                self.assertEqual(layout.cell(0), (0, 0))
                self.assertEqual(layout.key(last), 2 ** len(word) - 1)
                self.assertEqual(layout.cell(2 ** len(word) - 1), last)

    def test_kinds_of_the_answers(self):
        self.assertIs(type(Layout("xy").key((1, 1))), int)
        cell = Layout("xy").cell(2)
        self.assertIs(type(cell), tuple)
        self.assertEqual([type(part) for part in cell], [int, int])

    def test_wrong_cells(self):
        for word in ("x", "y", "xy", "yxyx", "xxxy", "xy" * 100):
            layout = Layout(word)
            for cell in plain.wrong_cells(layout.x_bits, layout.y_bits):
                with self.subTest(word, cell=cell), self.assertRaises(InvalidCell):
                    layout.key(cell)

    def test_wrong_keys(self):
        for word in ("x", "y", "xy", "yxyx", "xxxy", "xy" * 100):
            layout = Layout(word)
            for key in plain.wrong_keys(layout.x_bits, layout.y_bits):
                with self.subTest(word, key=key), self.assertRaises(InvalidKey):
                    layout.cell(key)

    def test_layout_stays_as_it_is(self):
        layout = Layout("yxyx")
        layout.key((1, 2))
        layout.cell(7)
        for wrong in ((4, 0), "cell"):
            with self.assertRaises(InvalidCell):
                layout.key(wrong)
        self.assertTrue(layout == Layout("yxyx"))
        self.assertEqual((layout.x_bits, layout.y_bits), (2, 2))


def plain_laced(x_bits, y_bits):
    """Return the word of laced, written from its end on."""
    word = ""
    while x_bits and y_bits:
        word = "yx" + word
        x_bits, y_bits = x_bits - 1, y_bits - 1
    return "x" * x_bits + "y" * y_bits + word


class BuildersTest(unittest.TestCase):
    sizes = [(n, m) for n in range(5) for m in range(5) if n + m]
    sizes += [(0, 1), (1, 0), (0, 100), (100, 0), (1, 100), (100, 1), (99, 100), (100, 99), (100, 100)]

    def test_example(self):
        told = [rows(2, 2).word, columns(1, 2).word, laced(2, 3).word, laced(3, 1).word, tiled(3, 3, 1, 1).word]
        self.assertEqual(told, ["yyxx", "xyy", "yyxyx", "xxyx", "yyxxyx"])

    def test_are_layouts_of_so_many_bits(self):
        for n, m in self.sizes:
            for layout in (rows(n, m), columns(n, m), laced(n, m), tiled(n, m, n // 2, m // 2)):
                self.assertIs(type(layout), Layout)
                self.assertEqual((layout.x_bits, layout.y_bits), (n, m))

    def test_rows(self):
        for n, m in self.sizes:
            self.assertEqual(rows(n, m).word, "y" * m + "x" * n)

    def test_columns(self):
        for n, m in self.sizes:
            self.assertEqual(columns(n, m).word, "x" * n + "y" * m)

    def test_laced(self):
        for n, m in self.sizes:
            self.assertEqual(laced(n, m).word, plain_laced(n, m))

    def test_tiled(self):
        for n, m in self.sizes:
            for i in {0, 1, n // 2, n - 1, n} & set(range(n + 1)):
                for j in {0, 1, m // 2, m - 1, m} & set(range(m + 1)):
                    word = "y" * (m - j) + "x" * (n - i) + "y" * j + "x" * i
                    self.assertEqual(tiled(n, m, i, j).word, word)

    def test_tiled_by_rows_of_cells(self):
        layout = tiled(3, 2, 1, 1)
        # Tiles of 2 by 2 cells, four of them in a row: the third one begins at (4, 0), the last one at (6, 2).
        self.assertEqual([layout.key(cell) for cell in ((4, 0), (5, 0), (4, 1), (5, 1))], [8, 9, 10, 11])
        self.assertEqual([layout.key(cell) for cell in ((6, 2), (7, 2), (6, 3), (7, 3))], [28, 29, 30, 31])

    def test_no_bits_at_all(self):
        for call in (rows, columns, laced):
            with self.subTest(call), self.assertRaises(InvalidBits):
                call(0, 0)
        for tile_x in (0, 1, -1, None):
            with self.subTest(tile_x), self.assertRaises(InvalidBits):
                tiled(0, 0, tile_x, 0)

    def test_wrong_bits(self):
        for call in (rows, columns, laced, lambda x_bits, y_bits: tiled(x_bits, y_bits, 0, 0)):
            for wrong in plain.wrong_bits():
                for bits in ((wrong, 1), (1, wrong), (wrong, 0), (0, wrong), (wrong, wrong), (wrong, 100)):
                    with self.subTest(call, bits=bits), self.assertRaises(InvalidBits):
                        call(*bits)

    def test_wrong_tiles(self):
        for n, m in ((3, 2), (0, 2), (3, 0), (100, 100)):
            for wrong in plain.wrong_bits() + [-1, -2]:
                with self.subTest(wrong), self.assertRaises(InvalidBits):
                    tiled(n, m, wrong, 0)
                with self.subTest(wrong), self.assertRaises(InvalidBits):
                    tiled(n, m, 0, wrong)
            with self.assertRaises(InvalidBits):
                tiled(n, m, n + 1, 0)
            with self.assertRaises(InvalidBits):
                tiled(n, m, 0, m + 1)
            with self.assertRaises(InvalidBits):
                tiled(n, m, n + 1, m + 1)

    def test_several_wrong_at_once(self):
        for bits in ((None, None, None, None), (101, "x", 5, 5), (2, [], 3, 1), (True, 2, 1, 1), (2, 2, "1", -1)):
            with self.subTest(bits), self.assertRaises(InvalidBits):
                tiled(*bits)


if __name__ == "__main__":
    unittest.main()
