"""Tests of the document's interface: its names, methods and arguments, and what stages draw from lower ones."""

import ast
import inspect
import unittest
from importlib import import_module
from pathlib import Path

PACKAGE = Path(__file__).resolve().parent.parent / "sumorder"
# The stages' modules as the interface lists them: a stage, and each function's or class's arguments.
MODULES = {
    "sheets": (1, {
        "is_part": "sizes thing", "is_sheet": "thing", "worth_of": "word sheet filling",
    }),
    "joins": (2, {
        "joined": "word sizes one other", "gathered": "word sizes part name",
        "settled": "sizes part name worth", "widened": "sizes part names",
    }),
    "wholes": (3, {"whole": "word sheet", "rest": "word sheet names"}),
    "taking": (4, {"taken_out": "word sheet order", "whole_by": "word sheet order"}),
    "orders": (5, {
        "bag_behind": "sheet taken name", "bags_of": "sheet order", "room_of": "sheet order",
        "by_fewest": "sheet", "by_room": "sheet", "by_ties": "sheet",
    }),
    "floors": (5, {"least_room": "sheet", "are_floors": "sheet thing number"}),
    "fresh": (5, {"no_new_ties": "sheet", "is_no_new": "sheet thing"}),
    "bags": (6, {
        "is_bag_tree": "sheet thing", "bag_tree": "sheet order", "tree_room": "sheet tree",
    }),
    "letters": (7, {
        "letters": "word sheet tree", "are_letters": "word sheet tree thing", "bag_rest": "word sheet tree i",
    }),
    "best": (8, {
        "best": "word sheet", "how_many_best": "word sheet", "bound_by": "word sheet tree offers",
    }),
    "keeper": (9, {"Keeper": "word sheet tree"}),
    "rounds": (10, {"rounds": "tree", "rounds_to": "tree i"}),
    "numbers": (11, {
        "filling_at": "sheet number", "number_of": "sheet filling", "share_of": "sheet name worth",
    }),
    "texts": (12, {"sheet_text": "sheet", "read_sheet": "text"}),
    "desk": (13, {"Desk": ""}),
}
# The classes' methods, with the arguments behind the object itself.
METHODS = {
    ("keeper", "Keeper"): {
        "whole": "", "rest": "i", "put": "k worths", "settle": "name worth", "free": "name", "back": "",
        "reckoned": "",
    },
    ("desk", "Desk"): {"say": "row"},
}


class Interface(unittest.TestCase):
    def test_names_and_arguments(self):
        for module, (stage, functions) in MODULES.items():
            for name, handed in functions.items():
                with self.subTest(module, function=name):
                    function = getattr(import_module(f"sumorder.{module}"), name)
                    self.assertEqual(list(inspect.signature(function).parameters), handed.split())
                    self.assertEqual(function.__module__, f"sumorder.{module}")

    def test_methods_stand_in_their_class_itself(self):
        for (module, name), methods in METHODS.items():
            there = vars(getattr(import_module(f"sumorder.{module}"), name))
            for method, handed in methods.items():
                with self.subTest(module, method=method):
                    self.assertEqual(list(inspect.signature(there[method]).parameters), ["self"] + handed.split())

    def test_a_stage_draws_from_lower_ones_what_the_interface_lists(self):
        for path in sorted(PACKAGE.glob("*.py")):
            for node in ast.parse(path.read_text()).body:
                if isinstance(node, ast.ImportFrom) and node.module.split(".")[-1] in MODULES:
                    stage, functions = MODULES[node.module.split(".")[-1]]
                    with self.subTest(path.name, drawn=node.module):
                        # What stands beside the stages serves them all, so it draws from none.
                        self.assertIn(path.stem, MODULES)
                        self.assertLessEqual(stage, MODULES[path.stem][0])
                        self.assertLessEqual({alias.name for alias in node.names}, set(functions))


if __name__ == "__main__":
    unittest.main()
