"""The form of the package's files, as far as it is told by numbers and places."""

import ast
import builtins
import unittest
from pathlib import Path

from pulledout import (benches, books, closed, comparing, console, errors, faults, items, least, moves, names, orders,
                       plain, rings, rows, runs, shelves, tables, texts)

PACKAGE = Path(__file__).resolve().parent.parent / "pulledout"
LIBRARY = {"heapq": ("heappush", "heappop", "heapify", "heapreplace", "heappushpop"),
           "math": ("gcd", "lcm", "isqrt", "comb", "perm", "factorial"),
           "itertools": ("product", "combinations", "permutations")}
# What the interface lists under each file.
INTERFACE = {names: ("is_name", "is_integer"),
             errors: ("PullError", "InvalidItem", "InvalidStep", "InvalidBook", "InvalidState", "InvalidMove",
                      "InvalidText", "InvalidCommand", "InvalidOption", "NotRight", "Faulty", "InvalidNumber",
                      "UnknownName", "LimitExceeded", "NothingToUndo"),
             items: ("is_item", "is_step", "is_use"),
             rows: ("HandRow", "WorkRow", "PullRow"),
             books: ("Book",),
             moves: ("is_move", "is_state", "first_state", "moves", "fault_of", "after", "is_freed", "is_stuck",
                     "is_kept", "count"),
             runs: ("Run", "play", "is_run", "fault_at_end"),
             benches: ("Bench",),
             tables: ("Table",),
             faults: ("faults", "is_right", "fewest", "is_shown", "require_right", "meetings", "way_out"),
             closed: ("closed_list", "is_closed"),
             rings: ("is_tidy", "askable", "Reach", "unsafe_places"),
             plain: ("Plain",),
             orders: ("orders_of", "right_orders", "kept_pairs", "alternatives", "is_alternatives", "right_words"),
             least: ("least_steps", "needed_steps", "Options"),
             comparing: ("unlike", "told_apart"),
             texts: ("write_item", "write_row", "write_book", "read_items", "read_steps", "read_book"),
             shelves: ("Shelf",),
             console: ("Console",)}
# What the interface lists for each class.
TUPLE_LIKE = ("of", "parts", "__len__", "__getitem__", "__iter__", "__contains__", "__eq__")
PLACED = ("size", "item", "nexts", "holds", "is_under", "is_locked", "places_of")
METHODS = {rows.HandRow: TUPLE_LIKE + PLACED + ("opening",),
           rows.WorkRow: TUPLE_LIKE + PLACED,
           rows.PullRow: TUPLE_LIKE + ("first", "has_lock", "is_behind"),
           books.Book: ("hands", "puller", "works", "marks", "__getitem__", "__contains__", "__len__", "__eq__",
                        "changed"),
           runs.Run: ("of", "hands", "listed", "__len__", "__getitem__", "__iter__", "__contains__", "__add__",
                      "__radd__", "__iadd__", "__eq__"),
           benches.Bench: ("__call__", "book", "state", "deeds", "freed", "kept", "most", "allow", "moves", "faults",
                           "stuck", "__len__", "back", "copy", "attempt", "trial"),
           tables.Table: ("__len__", "__contains__", "states", "__getitem__", "run_to", "links", "faults"),
           rings.Reach: ("goal", "lacks", "path", "events", "pairs", "choices", "cases", "__len__", "pairs_of", "order",
                         "ring", "is_ring", "answer", "is_answer"),
           plain.Plain: ("of", "sound", "opens", "asks", "pulls", "__len__", "__contains__", "__eq__", "pulled",
                         "as_book", "ahead", "behind", "gaps", "openings", "faults"),
           least.Options: ("add", "__iadd__", "book", "__len__", "__getitem__", "__iter__", "__contains__", "is_choice",
                           "changed", "least_changes"),
           shelves.Shelf: ("__setitem__", "put", "__getitem__", "drop", "__contains__", "__len__", "names", "__iter__",
                           "words", "limit", "bound", "undo", "changes", "trial", "accept", "attempt"),
           console.Console: ("shelf", "told")}


def files():
    return sorted(path for path in PACKAGE.rglob("*") if "__pycache__" not in path.parts and not path.is_dir())


class Form(unittest.TestCase):
    def test_files(self):
        self.assertIn(PACKAGE / "__init__.py", files())
        for path in files():
            self.assertRegex(path.name, r"^[a-z0-9_]+\.py$")

    def test_sizes(self):
        for path in files():
            lines = path.read_text("utf-8").split("\n")
            self.assertLessEqual(len(lines), 399, path)
            self.assertLessEqual(max(len(line) for line in lines), 120, path)
            for node in ast.walk(ast.parse(path.read_text("utf-8"))):
                if isinstance(node, ast.FunctionDef):
                    self.assertLessEqual(node.end_lineno - node.lineno + 1, 40, (path, node.name))

    def test_characters(self):
        for path in files():
            for sign in path.read_text("utf-8"):
                self.assertTrue(sign == "\n" or " " <= sign <= "~", (path, sign))

    def test_values(self):
        allowed = {"len", "range", "enumerate", "zip", "min", "max", "sum", "abs", "sorted", "reversed", "int", "str",
                   "bool", "list", "tuple", "dict", "set", "isinstance", "ord", "repr", "any", "all", "divmod", "iter",
                   "next", "property", "staticmethod", "ValueError", "TypeError", "KeyError", "LookupError",
                   "OverflowError", "RuntimeError"}
        for path in files():
            for node in ast.walk(ast.parse(path.read_text("utf-8"))):
                # Where classes have an __eq__, nearly all that takes these takes lists alone.
                self.assertNotIsInstance(node, (ast.GeneratorExp, ast.Global), path)
                if isinstance(node, ast.Name) and hasattr(builtins, node.id):
                    self.assertIn(node.id, allowed, path)
                if isinstance(node, ast.Constant) and isinstance(node.value, str):
                    self.assertNotIn(chr(37), node.value, path)

    def test_imports(self):
        for path in files():
            for node in ast.walk(ast.parse(path.read_text("utf-8"))):
                self.assertNotIsInstance(node, ast.Import, path)
                if isinstance(node, ast.ImportFrom):
                    self.check_import(path, node)

    def check_import(self, path, node):
        self.assertEqual(node.level, 0, path)
        for alias in node.names:
            if not node.module.startswith("pulledout."):
                self.assertIn(alias.name, LIBRARY.get(node.module, ()), path)

    def test_interface_stands_in_its_files(self):
        for module, listed in INTERFACE.items():
            for name in listed:
                self.assertEqual(getattr(module, name).__module__, module.__name__, name)

    def test_methods_stand_in_their_classes(self):
        for kind, listed in METHODS.items():
            for name in listed + ("__init__",):
                self.assertIn(name, vars(kind), kind)

    def test_no_dunder_methods_beyond_the_language(self):
        allowed = {"__init__", "__eq__", "__len__", "__iter__", "__contains__", "__getitem__", "__add__", "__radd__",
                   "__iadd__", "__setitem__", "__call__", "__enter__", "__exit__"}
        for path in files():
            for node in ast.walk(ast.parse(path.read_text("utf-8"))):
                if isinstance(node, ast.FunctionDef) and node.name.startswith("__"):
                    self.assertIn(node.name, allowed, path)


if __name__ == "__main__":
    unittest.main()
