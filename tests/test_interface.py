"""Holds the functions, classes and methods against the interface of the document: files, names and arguments."""

import importlib
import inspect
import unittest

FUNCTIONS = {
    "layouts": ["rows(x_bits, y_bits)", "columns(x_bits, y_bits)", "laced(x_bits, y_bits)"]
    + ["tiled(x_bits, y_bits, tile_x, tile_y)", "Layout(word)"],
    "runs": ["count_runs(layout, box)", "saved(layout, box)", "ends(layout, box)"],
    "lengths": ["run_lengths(layout, box)", "gap_lengths(layout, box)", "nth_run(layout, box, index)"]
    + ["run_of(layout, box, cell)"],
    "scans": ["fewest_read(layout, box, scans)", "fewest_scans(layout, box, keys)"]
    + ["least_cost(layout, box, scan_price, key_price)"],
    "blocks": ["count_blocks(layout, box)", "block_sizes(layout, box)", "block_of(layout, box, cell)"]
    + ["count_pages(layout, box, bits)"],
    "ranks": ["rank(layout, box, key)", "cell_at(layout, box, index)", "next_cell(layout, box, key)"]
    + ["last_cell(layout, box, key)"],
    "best": ["load_runs(layout, load)", "load_blocks(layout, load)", "best_layout(x_bits, y_bits, load)"]
    + ["worst_layout(x_bits, y_bits, load)", "nth_best(x_bits, y_bits, load, index)"]
    + ["best_blocks(x_bits, y_bits, load)", "best_page(x_bits, y_bits, load, bits)"],
    "places": ["total_runs(layout, width, height)", "mean_runs(layout, width, height)"]
    + ["fewest_runs(layout, width, height)", "most_runs(layout, width, height)"]
    + ["best_anywhere(x_bits, y_bits, width, height)"],
    "unions": ["cells_of(layout, boxes)", "runs_of(layout, boxes)"],
    "alike": ["parting_box(layout, second)", "count_ahead(x_bits, y_bits, cell, other)"],
    "texts": ["show_load(x_bits, y_bits, load)", "read_load(x_bits, y_bits, text)"],
    "sheets": ["LoadSheet(x_bits, y_bits)", "BudgetSheet(x_bits, y_bits, budget)"],
    "console": ["Console()"],
}
METHODS = {
    ("layouts", "Layout"): ["key(self, cell)", "cell(self, key)", "__eq__(self, other)"],
    ("sheets", "LoadSheet"): ["put(self, box, weight)", "drop(self, index)", "weigh(self, index, weight)"]
    + ["undo(self)", "log(self)", "runs(self, layout)", "best(self)", "preview(self, *operations)"]
    + ["__eq__(self, other)"],
    ("sheets", "BudgetSheet"): ["put(self, box, weight)", "drop(self, index)", "weigh(self, index, weight)"]
    + ["preview(self, *operations)", "__eq__(self, other)"],
    ("console", "Console"): ["execute(self, command)"],
}
PROPERTIES = {
    ("layouts", "Layout"): ["word", "x_bits", "y_bits"], ("sheets", "LoadSheet"): ["load"],
    ("sheets", "BudgetSheet"): ["budget"],
}


class InterfaceTest(unittest.TestCase):
    def test_each_is_defined_in_its_file_with_its_arguments(self):
        for name, told in FUNCTIONS.items():
            module = importlib.import_module(f"lacekeys.{name}")
            for text in told:
                with self.subTest(text):
                    one = getattr(module, text.partition("(")[0])
                    self.assertEqual(one.__module__, module.__name__)
                    self.assertEqual(one.__name__ + str(inspect.signature(one)), text)

    def test_each_method_is_defined_in_its_class(self):
        for (name, kind), told in METHODS.items():
            methods = vars(getattr(importlib.import_module(f"lacekeys.{name}"), kind))
            for text in told:
                with self.subTest(kind, text=text):
                    one = methods[text.partition("(")[0]]
                    self.assertEqual(one.__name__ + str(inspect.signature(one)), text)

    def test_each_property_is_defined_in_its_class(self):
        for (name, kind), told in PROPERTIES.items():
            methods = vars(getattr(importlib.import_module(f"lacekeys.{name}"), kind))
            for one in told:
                self.assertIsInstance(methods[one], property)


if __name__ == "__main__":
    unittest.main()
