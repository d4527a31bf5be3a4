import random
import unittest

from lacekeys.best import best_layout
from lacekeys.blocks import count_blocks
from lacekeys.console import Console
from lacekeys.errors import InvalidBits, InvalidBox, InvalidCell, InvalidCommand, InvalidIndex, InvalidKey
from lacekeys.errors import InvalidNumber, InvalidSize, InvalidWord, Nothing, TooMany, UnlikeGrids
from lacekeys.layouts import Layout, laced, rows
from lacekeys.places import total_runs
from lacekeys.runs import count_runs, ends
from lacekeys.sheets import LoadSheet
from lacekeys.texts import show_load
from tests import plain, wrong

LAST = 2 ** 100 - 1
# Each form of a command, with numbers that are right for an empty sheet of 3 by 3 bits or one with an item.
RIGHT = [
    "grid 3 3", "layout yyyxxx", "put 0 0 2 2 1", "drop 0", "weigh 0 2", "undo", "show", "word", "total", "best",
    "key 1 2", "cell 5", "runs 0 0 2 2", "blocks 0 0 2 2", "ends 0 0 2 2", "everywhere 2 2",
]
# Words in place of a number that are none.
NO_NUMBERS = [
    "", "x", "-", "--1", "+1", "-0", "00", "01", "-01", "1.0", "1.", "1e1", "1_0", "0x1", "1,", "1;", "one", "1-",
    "\u0661", "\u00b2", "1\n", "\n1", "1\t", "\t", "True", "None", "1" + "0" * 100, "-1" + "0" * 100, "0" * 101,
    "9" * 5000, "N",
]


def answers(console, commands):
    return [console.execute(command) for command in commands]


def state(console):
    """Return what a console tells of its sheet and its layout, the former without what an empty one has not."""
    told = answers(console, ["show", "word", "total"])
    return told + (answers(console, ["best"]) if told[0] != "none" else [])


def undone(console):
    """Return the loads that are told as all calls are taken back."""
    told = []
    while True:
        told.append(console.execute("show"))
        try:
            console.execute("undo")
        except Nothing:
            return told


class ExampleTest(unittest.TestCase):
    def test_example(self):
        commands = ["grid 2 2", "word", "put 0 0 2 2 1", "put 1 0 2 3 2", "total", "best"]
        commands += ["layout xxyy", "total", "undo", "show", "ends 1 0 2 3", "everywhere 2 2"]
        told = ["ok", "yxyx", "ok", "ok", "16", "5 1 xxyy", "ok", "5", "ok", "1: 0 0 2 2", "4 11", "18"]
        self.assertEqual(answers(Console(), commands), told)


class AnswersTest(unittest.TestCase):
    def test_a_new_console(self):
        self.assertEqual(state(Console()), ["none", "yxyxyx", "0"])
        self.assertEqual(undone(Console()), ["none"])
        self.assertIn("execute", vars(Console))

    def test_consoles_do_not_share_what_they_hold(self):
        one, two = Console(), Console()
        answers(one, ["put 0 0 2 2 1", "layout xxxyyy"])
        self.assertEqual(state(two), ["none", "yxyxyx", "0"])

    def test_each_command_against_its_function(self):
        chance = random.Random(101)
        for x_bits, y_bits in ((3, 3), (1, 0), (0, 4), (2, 5), (100, 100), (100, 1)):
            console, sheet = Console(), LoadSheet(x_bits, y_bits)
            self.assertEqual(console.execute(f"grid {x_bits} {y_bits}"), "ok")
            self.assertEqual(console.execute("word"), laced(x_bits, y_bits).word)
            for _ in range(4):
                layout = Layout(plain.some_word(chance, x_bits, y_bits))
                self.assertEqual(console.execute(f"layout {layout.word}"), "ok")
                box, weight = plain.some_load(chance, layout.word, 1)[0]
                self.assertEqual(console.execute("put {} {} {} {} {}".format(*box, weight)), "ok")
                sheet.put(box, weight)
                self.hold(console, sheet, layout, box, chance)
            for command, change in (("weigh 1 7", lambda: sheet.weigh(1, 7)), ("drop 2", lambda: sheet.drop(2)),
                                    ("undo", sheet.undo), ("undo", sheet.undo), ("drop 0", lambda: sheet.drop(0))):
                self.assertEqual(console.execute(command), "ok")
                change()
                self.hold(console, sheet, layout, box, chance)

    def hold(self, console, sheet, layout, box, chance):
        """Hold all that a console tells against what the functions and methods return."""
        x_bits, y_bits = layout.x_bits, layout.y_bits
        cell = plain.some_cell(chance, plain.whole_box(layout.word))
        sizes = (chance.randint(1, 2 ** x_bits), chance.randint(1, 2 ** y_bits))
        sides = " ".join(str(number) for number in box)
        key = chance.randrange(2 ** len(layout.word))
        told = [
            ("show", show_load(x_bits, y_bits, sheet.load)), ("word", layout.word), ("total", sheet.runs(layout)),
            ("best", "{} {} {}".format(*best_layout(x_bits, y_bits, sheet.load))),
            (f"key {cell[0]} {cell[1]}", layout.key(cell)), (f"cell {key}", "{} {}".format(*layout.cell(key))),
            (f"runs {sides}", count_runs(layout, box)), (f"blocks {sides}", count_blocks(layout, box)),
            (f"ends {sides}", "{} {}".format(*ends(layout, box))),
            (f"everywhere {sizes[0]} {sizes[1]}", total_runs(layout, *sizes)),
        ]
        for command, answer in told:
            self.assertEqual(console.execute(command), str(answer), command)
            self.assertIs(type(console.execute(command)), str)

    def test_a_grid_begins_a_new_sheet_and_the_laced_layout(self):
        console = Console()
        answers(console, ["put 0 0 2 2 1", "put 1 1 1 1 5", "layout xxxyyy", "grid 3 3"])
        self.assertEqual(state(console), ["none", "yxyxyx", "0"])
        wrong.hold_error(self, console.execute, ("undo",), Nothing)
        answers(console, ["put 0 0 2 2 1", "grid 2 3"])
        self.assertEqual(state(console), ["none", "yyxyx", "0"])
        self.assertEqual(answers(console, ["layout yyyxx", "put 0 0 3 7 1", "total"]), ["ok", "ok", "1"])
        wrong.hold_error(self, console.execute, ("put 0 0 4 7 1",), InvalidBox)

    def test_a_layout_leaves_the_sheet_and_is_not_taken_back(self):
        console = Console()
        answers(console, ["grid 2 2", "put 0 0 2 2 1", "layout xxyy"])
        self.assertEqual(state(console), ["1: 0 0 2 2", "xxyy", "3", "3 2 xxyy"])
        self.assertEqual(answers(console, ["undo", "word", "show"]), ["ok", "xxyy", "none"])

    def test_sheets_beside_a_console_through_long_sequences(self):
        chance = random.Random(102)
        console, sheet = Console(), LoadSheet(3, 3)
        for turn in range(150):
            many = len(sheet.load)
            kind = chance.choice(("put", "put", "drop", "weigh", "undo"))
            box, weight = plain.some_load(chance, "xxxyyy", 1)[0]
            if kind == "put" and many < 20:
                console.execute("put {} {} {} {} {}".format(*box, weight))
                sheet.put(box, weight)
            elif kind == "drop" and many:
                index = chance.randrange(many)
                console.execute(f"drop {index}")
                sheet.drop(index)
            elif kind == "weigh" and many:
                index = chance.randrange(many)
                console.execute(f"weigh {index} {weight}")
                sheet.weigh(index, weight)
            elif kind == "undo" and sheet.log():
                console.execute("undo")
                sheet.undo()
            text = show_load(3, 3, sheet.load) if sheet.load else "none"
            self.assertEqual(state(console)[:3], [text, "yxyxyx", str(sheet.runs(laced(3, 3)))])
        self.assertEqual(len(undone(console)), len(sheet.log()) + 1)


class RefusedTest(unittest.TestCase):
    def filled(self):
        console = Console()
        answers(console, ["grid 3 3", "put 0 0 2 2 1", "put 1 0 2 3 2", "weigh 0 3", "layout yyyxxx"])
        return console

    def hold(self, commands):
        """Hold that commands are refused with their errors, and that the console stays as it was."""
        console = self.filled()
        before = state(console)
        for command, error in commands:
            wrong.hold_error(self, console.execute, (command,), error)
            self.assertEqual(state(console), before, command)
        self.assertEqual(undone(console), undone(self.filled()))
        self.assertEqual(len(undone(self.filled())), 4)

    def test_all_right_commands_have_a_form(self):
        for command in RIGHT:
            self.assertIsInstance(self.filled().execute(command), str)

    def test_values_that_are_no_strings(self):
        values = [value for value in plain.strangers() if not isinstance(value, str)]
        values += [0, 1, (), b"undo", ["undo"], ("undo",), ["put", 0, 0, 2, 2, 1], ("key", 1, 2)]
        self.hold([(value, InvalidCommand) for value in values])

    def test_words_that_are_no_commands(self):
        words = ["", " ", "\n", "x", "0", "1 2", "quit", "help", "log", "load", "runs_of", "preview", "budget", "Undo"]
        words += ["UNDO", "undo.", "undo;", "sho", "shows", "GRID 3 3", "Put 0 0 2 2 1", "layouts yx", "execute show"]
        words += ["rows 3 3", "laced 3 3", "saved 0 0 2 2", "nowhere 2 2", "get", "__init__", "\u00fcndo"]
        self.hold([(word, InvalidCommand) for word in words])

    def test_words_too_many_or_too_few(self):
        for command in RIGHT:
            words = command.split(" ")
            beside = [command + " 1", command + " 0 0", command + " x", command + " " + command, "0 " + command]
            beside += [" ".join(words[:many]) for many in range(1, len(words))]
            self.hold([(one, InvalidCommand) for one in beside])

    def test_empty_words_and_newlines(self):
        for command in RIGHT:
            beside = [command + " ", " " + command, command + "\n", "\n" + command, command + " \n", command + "\t"]
            if " " in command:
                beside += [command.replace(" ", sign) for sign in ("  ", "\n", "\t", " \n", ",", "_", "\u00a0")]
            self.hold([(one, InvalidCommand) for one in beside])

    def test_words_that_are_no_numbers(self):
        for command in RIGHT:
            words = command.split(" ")
            for at in range(1, len(words)):
                if words[0] != "layout":
                    commands = [" ".join(words[:at] + [one] + words[at + 1:]) for one in NO_NUMBERS]
                    self.hold([(one, InvalidCommand) for one in commands])

    def test_layouts_that_are_no_words(self):
        for word in ("", "X", "Y", "xy0", "0", "1", "-", "xyxyxz", "yxyxyX", "xyxyxy.", "x,y", "yxyxyx\n", "\u0445"):
            self.hold([("layout " + word, InvalidCommand)])

    def test_errors_of_the_functions(self):
        end, hundred = 10 ** 99, "1" + "0" * 99
        self.hold([
            ("grid 0 0", InvalidBits), ("grid 101 1", InvalidBits), ("grid 1 101", InvalidBits),
            ("grid -1 3", InvalidBits), ("grid 3 -1", InvalidBits), (f"grid {hundred} {end}", InvalidBits),
            ("layout x", UnlikeGrids), ("layout y", UnlikeGrids), ("layout xxxyy", UnlikeGrids),
            ("layout xxyyxx", UnlikeGrids), ("layout " + "xy" * 100, UnlikeGrids),
            ("layout " + "x" * 101, InvalidWord), ("layout " + "y" * 101, InvalidWord),
            ("layout " + "xy" * 101, InvalidWord), ("layout " + "x" * 9000, InvalidWord),
            ("put 0 0 8 0 1", InvalidBox), ("put 0 0 0 8 1", InvalidBox), ("put 1 0 0 0 1", InvalidBox),
            ("put 0 1 0 0 1", InvalidBox), ("put -1 0 0 0 1", InvalidBox), ("put 0 0 -1 0 0", InvalidBox),
            (f"put {hundred} 0 {hundred} 0 1", InvalidBox), ("put 0 0 8 8 0", InvalidBox),
            ("put 0 0 2 2 0", InvalidNumber), ("put 0 0 2 2 -1", InvalidNumber),
            (f"put 0 0 2 2 {10 ** 30 + 1}", InvalidNumber), (f"put 0 0 2 2 -{hundred}", InvalidNumber),
            ("drop 2", InvalidIndex), ("drop -1", InvalidIndex), (f"drop {hundred}", InvalidIndex),
            ("weigh 2 1", InvalidIndex), ("weigh -1 1", InvalidIndex), ("weigh 2 0", InvalidIndex),
            ("weigh 0 0", InvalidNumber), ("weigh 1 -5", InvalidNumber), (f"weigh 0 {10 ** 30 + 1}", InvalidNumber),
            ("key 8 0", InvalidCell), ("key 0 8", InvalidCell), ("key -1 0", InvalidCell), ("key 0 -1", InvalidCell),
            ("cell 64", InvalidKey), ("cell -1", InvalidKey), (f"cell {hundred}", InvalidKey),
            ("runs 0 0 8 0", InvalidBox), ("runs 3 0 2 2", InvalidBox), ("runs -1 -1 2 2", InvalidBox),
            ("blocks 0 0 0 8", InvalidBox), ("blocks 0 3 2 2", InvalidBox), ("ends 0 0 0 8", InvalidBox),
            ("ends 2 2 0 0", InvalidBox), ("everywhere 0 2", InvalidSize), ("everywhere 2 0", InvalidSize),
            ("everywhere 9 2", InvalidSize), ("everywhere 2 9", InvalidSize), ("everywhere -1 -1", InvalidSize),
        ])

    def test_nothing_to_take_back_or_to_tell(self):
        for console in (Console(), Console()):
            for _ in range(2):
                wrong.hold_error(self, console.execute, ("undo",), Nothing)
                wrong.hold_error(self, console.execute, ("best",), Nothing)
                wrong.hold_error(self, console.execute, ("drop 0",), InvalidIndex)
                wrong.hold_error(self, console.execute, ("weigh 0 1",), InvalidIndex)
                self.assertEqual(state(console), ["none", "yxyxyx", "0"])

    def test_too_many_items(self):
        console = Console()
        answers(console, ["put 0 0 2 2 1"] * 20)
        before = state(console)
        wrong.hold_error(self, console.execute, ("put 0 0 2 2 1",), TooMany(20))
        self.assertEqual(state(console), before)
        self.assertEqual(len(undone(console)), 21)

    def test_bounds_that_are_right(self):
        console = Console()
        told = answers(console, ["grid 100 100", f"put 0 0 {LAST} {LAST} {10 ** 30}", "total", "show"])
        self.assertEqual(told, ["ok", "ok", str(10 ** 30), f"{10 ** 30}: 0 0 {LAST} {LAST}"])
        told = answers(console, [f"key {LAST} {LAST}", f"cell {2 ** 200 - 1}", f"everywhere {2 ** 100} {2 ** 100}"])
        self.assertEqual(told, [str(2 ** 200 - 1), f"{LAST} {LAST}", "1"])
        layout = rows(100, 100).word
        told = answers(console, ["layout " + layout, "word", f"ends 0 0 {LAST} 0"])
        self.assertEqual(told, ["ok", layout, f"0 {LAST}"])
        self.assertEqual(answers(Console(), ["grid 0 1", "word", "grid 1 0", "word"]), ["ok", "y", "ok", "x"])


if __name__ == "__main__":
    unittest.main()
