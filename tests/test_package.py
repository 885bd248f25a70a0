"""The interface as a whole, and those rules of LANGUAGE.md that a short look at the files can tell."""

import ast
import builtins
import doctest
import importlib
import inspect
import pathlib
import unittest
import warnings

PACKAGE = pathlib.Path(__file__).resolve().parent.parent / "nevergoback"

# Each function of the interface that has landed, and its parameters.
INTERFACE = {
    "orders": {"order_of": ["numbers"], "is_order": ["value", "size"], "all_orders": ["many"], "turned": ["order"]},
    "looks": {
        "is_node": ["many", "value"], "look_between": ["u", "v"], "is_look": ["many", "value"],
        "all_looks": ["many"], "is_back": ["look"], "require_table": ["many", "value"],
        "require_waits": ["many", "value"],
    },
    "joins": {"fits": ["one", "other"], "joined": ["one", "other"], "middle": ["one", "other", "look"]},
    "walks": {
        "first_hop_not": ["table", "nodes"], "is_ring": ["table", "nodes"], "looks_of": ["nodes"],
        "walk_for": ["chain"], "ring_for": ["chain"],
    },
    "closures": {
        "closure": ["table"], "levels": ["table"], "chain_to": ["table", "look"], "is_safe": ["table"],
        "shortest_ring": ["table"], "walk_to": ["table", "look"],
    },
    "journeys": {
        "journeys_set": ["table"], "is_journey": ["table", "value"], "comes_back": ["journey"], "is_once": ["table"],
        "coming_back": ["table"],
    },
    "waits": {
        "waits_table": ["waits"], "kept_table": ["table", "waits"], "is_calm": ["table", "waits"],
        "is_cut": ["waits", "look"], "harm": ["table", "waits"],
    },
    "arrivals": {
        "kinds": ["many"], "kind_of": ["look"], "leads_down": ["look", "place"],
        "lacking": ["many", "table", "waits", "kind", "place"], "good_places": ["many", "table", "waits"],
        "brings": ["many", "table", "waits"], "empty_handed": ["many", "table", "waits"], "links_around": ["nodes"],
    },
    "texts": {"format_table": ["table"], "parse_conditions": ["many", "text"]},
    "trials": {
        "first_waits": ["many", "table", "may", "tries"], "tree_of": ["many", "table", "may", "tries"],
    },
    "full": {"is_full": ["many", "table"], "filled": ["many", "table"], "room": ["many", "table"]},
    "mends": {
        "require_options": ["many", "value"], "choices": ["options"],
        "with_choice": ["table", "waits", "options", "choice"], "cheapest_mend": ["table", "waits", "options"],
    },
}

# L8, without those that L27 and L7 take away again.
BUILTINS = set(
    "len range enumerate zip map min max sum abs sorted reversed int str bool list tuple dict set isinstance ord repr "
    "any all divmod pow iter next super property staticmethod classmethod Exception ValueError TypeError KeyError "
    "IndexError LookupError ZeroDivisionError ArithmeticError OverflowError RuntimeError NotImplementedError "
    "StopIteration NotImplemented".split())
LIBRARY = {"heapq", "math", "itertools", "collections"}


def files():
    return sorted(PACKAGE.rglob("*.py"))


def trees():
    return [(path.name, ast.parse(path.read_text(encoding="ascii"))) for path in files()]


class Interface(unittest.TestCase):
    def test_names_and_parameters(self):
        for module, functions in INTERFACE.items():
            loaded = importlib.import_module("nevergoback." + module)
            for name, parameters in functions.items():
                with self.subTest(module=module, name=name):
                    function = getattr(loaded, name)
                    self.assertEqual(list(inspect.signature(function).parameters), parameters)
                    self.assertEqual(function.__module__, "nevergoback." + module)
                    self.assertEqual(function.__name__, name)


class Readme(unittest.TestCase):
    def test_its_examples(self):
        found = doctest.testfile(str(PACKAGE.parent / "README.md"), module_relative=False)
        self.assertEqual(found.failed, 0)
        self.assertGreater(found.attempted, 20)


class Language(unittest.TestCase):
    def test_the_folder_holds_python_files_alone(self):
        self.assertTrue((PACKAGE / "__init__.py").is_file())
        for path in PACKAGE.rglob("*"):
            if "__pycache__" not in path.parts:
                self.assertEqual(path.suffix, ".py", path)

    def test_characters_and_sizes(self):
        for path in files():
            text = path.read_bytes()
            self.assertTrue(all(sign == 10 or 32 <= sign <= 126 for sign in text), path)
            lines = text.decode("ascii").split("\n")
            self.assertLessEqual(len(lines), 399, path)
            self.assertLessEqual(max(map(len, lines)), 120, path)

    def test_python_warns_of_no_line(self):
        for path in files():
            with warnings.catch_warnings():
                warnings.simplefilter("error")
                compile(path.read_text(encoding="ascii"), str(path), "exec")

    def test_size_of_functions(self):
        for name, tree in trees():
            for node in ast.walk(tree):
                if isinstance(node, (ast.FunctionDef, ast.Lambda)):
                    self.assertLessEqual(node.end_lineno - node.lineno + 1, 40, (name, node.lineno))

    def test_imports(self):
        for name, tree in trees():
            for node in ast.walk(tree):
                self.assertNotIsInstance(node, ast.Import, (name,))
                if isinstance(node, ast.ImportFrom):
                    self.assertEqual(node.level, 0)
                    self.assertTrue(node.module.startswith("nevergoback.") or node.module in LIBRARY, node.module)

    def test_builtins(self):
        for name, tree in trees():
            for node in ast.walk(tree):
                if isinstance(node, ast.Name) and hasattr(builtins, node.id):
                    self.assertIn(node.id, BUILTINS, (name, node.lineno))

    def test_values_and_signs(self):
        for name, tree in trees():
            for node in ast.walk(tree):
                self.assertNotIsInstance(node, (ast.Div, ast.Global, ast.AsyncFunctionDef, ast.Await), name)
                if isinstance(node, ast.Constant):
                    self.assertNotIsInstance(node.value, (float, complex), name)

    def test_module_level(self):
        for name, tree in trees():
            for node in tree.body:
                docstring = isinstance(node, ast.Expr) and node is tree.body[0]
                kinds = (ast.ImportFrom, ast.FunctionDef, ast.ClassDef, ast.Assign)
                self.assertTrue(docstring or isinstance(node, kinds), (name, node.lineno))


if __name__ == "__main__":
    unittest.main()
