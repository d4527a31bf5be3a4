import random
import unittest

from lacekeys.errors import InvalidBits, InvalidLoad, InvalidText
from lacekeys.texts import read_load, show_load
from tests import plain, wrong

SQUARE, BAR = (0, 0, 2, 2), (1, 0, 2, 3)
LAST = 2 ** 100 - 1
ITEM = "1: 0 0 2 2"

# Nearly the text of an item on a grid of 4 by 4.
WRONG_PARTS = [
    "", " ", ":", ": ", "1", "1:", "1: ", "1:0 0 2 2", "1 : 0 0 2 2", "1 0 0 2 2", ": 0 0 2 2", " 1: 0 0 2 2",
    "1: 0 0 2 2 ", "1:  0 0 2 2", "1: 0  0 2 2", "1: 0 0 2  2", "1: 0 0 2", "1: 0 0 2 2 2", "1: 0 0 2 ", "1: 0,0,2,2",
    "1: (0, 0, 2, 2)", "01: 0 0 2 2", "00: 0 0 2 2", "0: 0 0 2 2", "-1: 0 0 2 2", "+1: 0 0 2 2", "1: 00 0 2 2",
    "1: 0 00 2 2", "1: 0 0 02 2", "1: 0 0 2 02", "1: -0 0 2 2", "1: +0 0 2 2", "1: -1 0 2 2", "1: 0 0 2 -2",
    "1.0: 0 0 2 2", "1e1: 0 0 2 2", "1_0: 0 0 2 2", "0x1: 0 0 2 2", "1: 0 0 2 2;", ";1: 0 0 2 2", "1: 0 0 2 2,",
    "1: 0 0 2 2\n", "\n1: 0 0 2 2", "1:\n0 0 2 2", "1: 0 0 2\n2", "1\n: 0 0 2 2", "1: 0\t0 2 2", "1: 1: 0 0 2 2",
    "x: 0 0 2 2", "1: x 0 2 2", "one: 0 0 2 2", "1: a b c d", "none", "True: 0 0 2 2", "1: 0 0 2 2: 1",
    "1: 0 0 4 2", "1: 0 0 2 4", "1: 3 0 2 2", "1: 0 3 2 2", "1: 4 0 4 2", "1: 0 4 2 4", "1: 2 2 0 0",
    f"{10 ** 30 + 1}: 0 0 2 2", f"{10 ** 99}: 0 0 2 2", f"{10 ** 100}: 0 0 2 2", f"1: 0 0 {10 ** 99} 2",
    f"1: 0 0 2 {10 ** 100}", f"{'0' * 99}1: 0 0 2 2", f"1: {'0' * 100} 0 2 2", f"1: {'0' * 101} 0 2 2",
    f"{'9' * 5000}: 0 0 2 2", f"1: 0 0 2 {'9' * 5000}", "\u0661: 0 0 2 2", "1: 0 0 2 \u0662", "1: 0 0 \u00b2 2",
    "1: 0 0 2 2;1: 0 0 2 2", "1: 0 0 2 2 ;1: 0 0 2 2", "1: 0 0 2 2\u00a0",
]


def plain_text(load):
    """Return the text of a load, put together sign by sign."""
    text = ""
    for box, weight in load:
        if text:
            text += "; "
        text += str(weight) + ":"
        for number in box:
            text += " " + str(number)
    return text


class ExampleTest(unittest.TestCase):
    def test_example(self):
        one, two = [(SQUARE, 1)], [(SQUARE, 1), (BAR, 2)]
        told = [show_load(2, 2, two), read_load(2, 2, "1: 0 0 2 2") == one]
        self.assertEqual(told, ["1: 0 0 2 2; 2: 1 0 2 3", True])


class RoundTest(unittest.TestCase):
    def test_loads_that_are_shown_and_read_again(self):
        chance = random.Random(81)
        for x_bits, y_bits in ((1, 0), (0, 1), (2, 2), (3, 5), (100, 100), (100, 0), (0, 100), (7, 100)):
            for many in (1, 2, 3, 10, 19, 20):
                load = plain.some_load(chance, "x" * x_bits + "y" * y_bits, many)
                text = show_load(x_bits, y_bits, load)
                self.assertIs(type(text), str)
                self.assertEqual(text, plain_text(load))
                again = read_load(x_bits, y_bits, text)
                self.assertEqual(again, load)
                self.assertEqual(show_load(x_bits, y_bits, again), text)

    def test_bounds_that_are_right(self):
        for text, load in (
            ("1: 0 0 0 0", [((0, 0, 0, 0), 1)]), (f"{10 ** 30}: 3 3 3 3", [((3, 3, 3, 3), 10 ** 30)]),
            ("10: 0 0 3 3", [((0, 0, 3, 3), 10)]), ("; ".join([ITEM] * 20), [(SQUARE, 1)] * 20),
        ):
            self.assertEqual(read_load(2, 2, text), load)
            self.assertEqual(show_load(2, 2, load), text)
        self.assertEqual(read_load(100, 100, f"3: 0 {LAST} {LAST} {LAST}"), [((0, LAST, LAST, LAST), 3)])

    def test_kinds_of_what_is_read(self):
        load = read_load(2, 2, "1: 0 0 2 2; 2: 1 0 2 3")
        self.assertEqual((type(load), [type(item) for item in load]), (list, [tuple, tuple]))
        for box, weight in load:
            self.assertEqual((type(box), [type(part) for part in box], type(weight)), (tuple, [int] * 4, int))

    def test_lists_are_new_each_time(self):
        first = read_load(2, 2, ITEM)
        first.append(None)
        self.assertEqual(read_load(2, 2, ITEM), [(SQUARE, 1)])

    def test_what_is_passed_stays_as_it_is(self):
        load = [(SQUARE, 1), (BAR, 2)]
        show_load(2, 2, load)
        self.assertEqual(load, [((0, 0, 2, 2), 1), ((1, 0, 2, 3), 2)])


class WrongTextTest(unittest.TestCase):
    def hold(self, text, part, x_bits=2, y_bits=2):
        wrong.hold_error(self, read_load, (x_bits, y_bits, text), InvalidText(part))

    def test_no_strings(self):
        for value in plain.strangers() + [0, 1, -1, (), (ITEM,), [ITEM], [(SQUARE, 1)], b"1: 0 0 2 2"]:
            if not isinstance(value, str):
                self.hold(value, None)

    def test_wrong_parts(self):
        for part in WRONG_PARTS:
            for at in (0, 1, 2, 18, 19):
                parts = [ITEM] * at + [part]
                self.hold("; ".join(parts), at)
                self.hold("; ".join(parts + [ITEM]), at)
                self.hold("; ".join(parts + ["", part]), at)

    def test_signs_between_the_parts(self):
        for between in (";", ";  ", " ; ", ", ", ";\n", " ", "\n", "; ; "):
            text = between.join([ITEM, ITEM])
            self.hold(text, 1 if between in (";  ", "; ; ") else 0)
        self.hold(ITEM + "; ", 1)
        self.hold("; " + ITEM, 0)
        self.hold("; ", 0)

    def test_too_many_parts(self):
        for many in (21, 22, 40, 400):
            parts = [ITEM] * many
            self.hold("; ".join(parts), many)
            for at in (0, 19, 20, many - 1):
                self.hold("; ".join(parts[:at] + ["0: 0 0 2 2"] + parts[at + 1:]), at)

    def test_boxes_beyond_the_grid(self):
        for x_bits, y_bits in ((1, 3), (3, 1), (0, 2), (100, 99)):
            x_end, y_end = 2 ** x_bits, 2 ** y_bits
            self.assertEqual(len(read_load(x_bits, y_bits, f"1: 0 0 {x_end - 1} {y_end - 1}")), 1)
            self.hold(f"1: 0 0 {x_end} {y_end - 1}", 0, x_bits, y_bits)
            self.hold(f"1: 0 0 {x_end - 1} {y_end}", 0, x_bits, y_bits)
            self.hold(f"1: 0 0 0 0; 1: {x_end} 0 {x_end} 0", 1, x_bits, y_bits)


class ArgumentsTest(unittest.TestCase):
    def test_wrong_arguments_of_show_load(self):
        bits = (InvalidBits, plain.wrong_bits())
        for x_bits, y_bits in ((2, 2), (100, 100), (0, 1)):
            told = plain.wrong_lists(((0, 0, 0, 0), 1), plain.wrong_items(x_bits, y_bits), 20)
            loads = [(InvalidLoad(item), [value]) for value, item in told]
            wrong.hold_errors(self, show_load, (x_bits, y_bits, [((0, 0, 0, 0), 1)]), [bits, bits, loads])
        wrong.hold_error(self, show_load, (0, 0, []), InvalidBits)

    def test_wrong_arguments_of_read_load(self):
        bits = (InvalidBits, plain.wrong_bits())
        texts = [(InvalidText(None), [None, [], b"", 0]), (InvalidText(0), ["", "1", "1: 0 0 200 200"])]
        for x_bits, y_bits in ((2, 2), (1, 0), (5, 5)):
            wrong.hold_errors(self, read_load, (x_bits, y_bits, "1: 0 0 0 0"), [bits, bits, texts])
        wrong.hold_error(self, read_load, (0, 0, "1: 0 0 0 0"), InvalidBits)
        wrong.hold_error(self, read_load, (0, 0, None), InvalidBits)


if __name__ == "__main__":
    unittest.main()
