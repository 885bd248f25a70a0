"""The interface as a whole, and those rules of LANGUAGE.md that a short look at the files can tell."""

import ast
import builtins
import doctest
import importlib
import inspect
import pathlib
import re
import tokenize
import unittest
import warnings

from nevergoback import errors

PACKAGE = pathlib.Path(__file__).resolve().parent.parent / "nevergoback"

# Each function of the interface that has landed, and its parameters.
INTERFACE = {
    "orders": {"order_of": ["numbers"], "is_order": ["value", "size"], "all_orders": ["many"], "turned": ["order"]},
    "looks": {
        "is_node": ["many", "value"], "look_between": ["u", "v"], "is_look": ["many", "value"],
        "all_looks": ["many"], "is_back": ["look"], "require_table": ["many", "value"],
        "require_waits": ["many", "value"],
    },
    "joins": {"fits": ["one", "other"], "joined": ["one", "other"], "middle": ["one", "other", "look"]},
    "walks": {
        "first_hop_not": ["table", "nodes"], "is_ring": ["table", "nodes"], "looks_of": ["nodes"],
        "walk_for": ["chain"], "ring_for": ["chain"],
    },
    "closures": {
        "closure": ["table"], "levels": ["table"], "chain_to": ["table", "look"], "is_safe": ["table"],
        "shortest_ring": ["table"], "walk_to": ["table", "look"],
    },
    "journeys": {
        "journeys_set": ["table"], "is_journey": ["table", "value"], "comes_back": ["journey"], "is_once": ["table"],
        "coming_back": ["table"],
    },
    "waits": {
        "waits_table": ["waits"], "kept_table": ["table", "waits"], "is_calm": ["table", "waits"],
        "is_cut": ["waits", "look"], "harm": ["table", "waits"],
    },
    "arrivals": {
        "kinds": ["many"], "kind_of": ["look"], "leads_down": ["look", "place"],
        "lacking": ["many", "table", "waits", "kind", "place"], "good_places": ["many", "table", "waits"],
        "brings": ["many", "table", "waits"], "empty_handed": ["many", "table", "waits"], "links_around": ["nodes"],
    },
    "texts": {"format_table": ["table"], "parse_conditions": ["many", "text"]},
    "trials": {
        "first_waits": ["many", "table", "may", "tries"], "tree_of": ["many", "table", "may", "tries"],
    },
    "full": {"is_full": ["many", "table"], "filled": ["many", "table"], "room": ["many", "table"]},
    "mends": {
        "require_options": ["many", "value"], "choices": ["options"],
        "with_choice": ["table", "waits", "options", "choice"], "cheapest_mend": ["table", "waits", "options"],
    },
    "claims": {"require_claim": ["claim"], "decide": ["claim", "tries"]},
    "checker": {"first_fault": ["certificate"]},
    "replays": {
        "links_for": ["nodes"], "deeds_for": ["waits", "nodes"], "replayed": ["many", "table", "waits", "nodes"],
    },
}
# Each method of the class Net, and its parameters behind the object itself.
METHODS = {
    "__init__": ["many", "table", "waits", "links"], "names": [], "numbers": ["name"], "standing": ["name"],
    "node": ["name"], "neighbours": ["name"], "waited_for": ["name"], "ways_on": ["name"], "go": ["name"],
    "put": ["packet", "name"], "hop": ["packet", "name"], "path": ["packet"], "is_still": [], "left_empty": [],
    "ring": [], "mixture": [], "deeds": [], "twin": [], "undo": [], "__len__": [], "__eq__": ["other"],
    "__iadd__": ["other"],
}
# By their names alone: those behind them are passed by position or by name.
BY_NAME = {("trials", "first_waits"): "tries", ("trials", "tree_of"): "tries", ("claims", "decide"): "tries"}

# L8, without those that L27 and L7 take away again.
BUILTINS = set(
    "len range enumerate zip map min max sum abs sorted reversed int str bool list tuple dict set isinstance ord repr "
    "any all divmod pow iter next super property staticmethod classmethod Exception ValueError TypeError KeyError "
    "IndexError LookupError ZeroDivisionError ArithmeticError OverflowError RuntimeError NotImplementedError "
    "StopIteration NotImplemented".split())
LIBRARY = {"heapq", "math", "itertools", "collections"}
# L25, the first list and the additional methods.
METHODS_OF_VALUES = set(
    "append clear copy count endswith extend find get index insert isalnum isalpha isdigit islower isspace isupper "
    "items join keys ljust lower lstrip partition pop remove replace reverse rfind rjust rpartition rsplit rstrip "
    "setdefault split splitlines startswith strip update upper values zfill bit_length "
    "title capitalize swapcase casefold center expandtabs removeprefix removesuffix rindex isascii isdecimal "
    "isnumeric istitle isidentifier isprintable add discard".split())
# L17.
NEVER = {"mro", "elements", "open", "input", "law", "version_info", "with_traceback", "add_note", "register"}
NOT_NAMES = NEVER | set(
    "attrgetter breakpoint builtins compile copyright credits delattr dir eval exec exit gc getattr globals hasattr "
    "help id importlib license locals methodcaller os quit setattr super type vars sys".split())
NOT_IN_FILES = set(
    "type typing typing_extensions enum Enum IntEnum StrEnum Flag IntFlag Generic Protocol ABC ABCMeta namedtuple "
    "NamedTuple TypedDict TYPE_CHECKING abstractmethod dataclass overload contextmanager".split())
OWN_ERRORS = {name for name in vars(errors) if isinstance(vars(errors)[name], type)}
DOUBLE = {"__init__", "__eq__", "__len__", "__iadd__"}


def files():
    return sorted(PACKAGE.rglob("*.py"))


def trees():
    return [(path.name, ast.parse(path.read_text(encoding="ascii"))) for path in files()]


class Interface(unittest.TestCase):
    def test_names_and_parameters(self):
        for module, functions in INTERFACE.items():
            loaded = importlib.import_module("nevergoback." + module)
            for name, parameters in functions.items():
                with self.subTest(module=module, name=name):
                    function = getattr(loaded, name)
                    self.assertEqual(list(inspect.signature(function).parameters), parameters)
                    self.assertEqual(function.__module__, "nevergoback." + module)
                    self.assertEqual(function.__name__, name)
                    alone = [key for key, told in inspect.signature(function).parameters.items()
                             if told.kind is inspect.Parameter.KEYWORD_ONLY]
                    self.assertEqual(alone, [BY_NAME[(module, name)]] if (module, name) in BY_NAME else [])

    def test_methods_stand_in_the_class_itself(self):
        from nevergoback.nets import Net
        self.assertEqual(Net.__module__, "nevergoback.nets")
        for name, parameters in METHODS.items():
            self.assertIn(name, vars(Net))
            self.assertEqual(list(inspect.signature(vars(Net)[name]).parameters), ["self"] + parameters)


class Readme(unittest.TestCase):
    def test_its_examples(self):
        found = doctest.testfile(str(PACKAGE.parent / "README.md"), module_relative=False)
        self.assertEqual(found.failed, 0)
        self.assertGreater(found.attempted, 20)


class Language(unittest.TestCase):
    def test_the_folder_holds_python_files_alone(self):
        self.assertTrue((PACKAGE / "__init__.py").is_file())
        for path in PACKAGE.rglob("*"):
            if "__pycache__" not in path.parts:
                self.assertEqual(path.suffix, ".py", path)

    def test_characters_and_sizes(self):
        for path in files():
            text = path.read_bytes()
            self.assertTrue(all(sign == 10 or 32 <= sign <= 126 for sign in text), path)
            lines = text.decode("ascii").split("\n")
            self.assertLessEqual(len(lines), 399, path)
            self.assertLessEqual(max(map(len, lines)), 120, path)

    def test_python_warns_of_no_line(self):
        for path in files():
            with warnings.catch_warnings():
                warnings.simplefilter("error")
                compile(path.read_text(encoding="ascii"), str(path), "exec")

    def test_size_of_functions(self):
        for name, tree in trees():
            for node in ast.walk(tree):
                if isinstance(node, (ast.FunctionDef, ast.Lambda)):
                    self.assertLessEqual(node.end_lineno - node.lineno + 1, 40, (name, node.lineno))

    def test_imports(self):
        for name, tree in trees():
            for node in ast.walk(tree):
                self.assertNotIsInstance(node, ast.Import, (name,))
                if isinstance(node, ast.ImportFrom):
                    self.assertEqual(node.level, 0)
                    self.assertTrue(node.module.startswith("nevergoback.") or node.module in LIBRARY, node.module)

    def test_builtins(self):
        for name, tree in trees():
            for node in ast.walk(tree):
                if isinstance(node, ast.Name) and hasattr(builtins, node.id):
                    self.assertIn(node.id, BUILTINS, (name, node.lineno))

    def test_values_and_signs(self):
        for name, tree in trees():
            for node in ast.walk(tree):
                self.assertNotIsInstance(node, (ast.Div, ast.Global, ast.AsyncFunctionDef, ast.Await), name)
                if isinstance(node, ast.Constant):
                    self.assertNotIsInstance(node.value, (float, complex), name)

    def test_imported_names_stand_in_the_file_that_defines_them(self):
        defined = {}
        for name, tree in trees():
            defined[name] = {node.name for node in tree.body if isinstance(node, (ast.FunctionDef, ast.ClassDef))}
            defined[name] |= {node.targets[0].id for node in tree.body if isinstance(node, ast.Assign)}
        for name, tree in trees():
            for node in tree.body:
                if isinstance(node, ast.ImportFrom) and node.module not in LIBRARY:
                    for alias in node.names:
                        self.assertIn(alias.name, defined[node.module.split(".")[1] + ".py"], (name, alias.name))
                        self.assertIsNone(alias.asname)

    def test_no_two_files_import_from_each_other(self):
        imports = {name[:-3]: {node.module.split(".")[1] for node in tree.body if isinstance(node, ast.ImportFrom)
                               and node.module not in LIBRARY} for name, tree in trees()}
        left = dict(imports)
        while left:
            ends = [name for name in left if not left[name] & set(left)]
            self.assertTrue(ends, left)
            for name in ends:
                del left[name]

    def test_methods_of_values_and_own_ones(self):
        own = {node.name for _, tree in trees() for part in tree.body if isinstance(part, ast.ClassDef)
               for node in part.body if isinstance(node, ast.FunctionDef)}
        for name, tree in trees():
            for node in ast.walk(tree):
                if isinstance(node, ast.Call) and isinstance(node.func, ast.Attribute):
                    self.assertIn(node.func.attr, METHODS_OF_VALUES | own, (name, node.lineno))
        self.assertFalse(own & METHODS_OF_VALUES)
        attributes = {node.attr for _, tree in trees() for node in ast.walk(tree)
                      if isinstance(node, ast.Attribute) and isinstance(node.ctx, ast.Store)}
        self.assertFalse(own & attributes)

    def test_names(self):
        for name, tree in trees():
            fixed = {alias.name for node in tree.body if isinstance(node, ast.ImportFrom) for alias in node.names}
            fixed |= {node.name for node in tree.body if isinstance(node, ast.ClassDef)}
            bound = [alias for node in tree.body if isinstance(node, ast.ImportFrom) for alias in node.names]
            bound = [alias.name for alias in bound] + [
                node.targets[0].id if isinstance(node, ast.Assign) else node.name for node in tree.body
                if isinstance(node, (ast.Assign, ast.FunctionDef, ast.ClassDef))]
            self.assertEqual(len(bound), len(set(bound)), name)
            for node in ast.walk(tree):
                if isinstance(node, ast.arg):
                    told = node.arg
                elif isinstance(node, ast.Name) and isinstance(node.ctx, ast.Store):
                    told = node.id
                elif isinstance(node, (ast.FunctionDef, ast.ClassDef)):
                    self.assertNotIn(node.name, NOT_NAMES)
                    self.assertTrue(not node.name.startswith("__") or node.name in DOUBLE, node.name)
                    continue
                elif isinstance(node, ast.Attribute):
                    self.assertNotIn(node.attr, NEVER)
                    continue
                else:
                    continue
                self.assertNotIn(told, fixed | NOT_NAMES | set(dir(builtins)), (name, node.lineno))
                self.assertFalse(told.startswith("__"))

    def test_words_that_do_not_occur(self):
        for path in files():
            with open(path, "rb") as file:
                tokens = [token for token in tokenize.tokenize(file.readline)
                          if token.type in (tokenize.NAME, tokenize.STRING) and not token.string.startswith('"""')]
            for token in tokens:
                words = set(re.findall("[A-Za-z_0-9]+", token.string))
                self.assertFalse(words & NOT_IN_FILES, (path, token.start))
                if token.type == tokenize.STRING:
                    self.assertNotIn("%", token.string)

    def test_plain_statements_and_expressions(self):
        """The package does without much that LANGUAGE.md allows under conditions."""
        for name, tree in trees():
            for node in ast.walk(tree):
                self.assertNotIsInstance(node, (
                    ast.AugAssign, ast.GeneratorExp, ast.Lambda, ast.Nonlocal, ast.With, ast.Match, ast.NamedExpr,
                    ast.Starred, ast.Set, ast.AnnAssign, ast.Assert), (name, getattr(node, "lineno", None)))
                if isinstance(node, (ast.FunctionDef, ast.ClassDef)):
                    self.assertEqual(node.decorator_list, [])
                if isinstance(node, ast.Try):
                    self.assertFalse(node.finalbody or node.orelse)
                    for handler in node.handlers:
                        self.assertIn(handler.type.id, OWN_ERRORS)
                if isinstance(node, ast.Raise):
                    self.assertIn(node.exc.func.id, OWN_ERRORS)

    def test_generators_are_iterated_at_once(self):
        generators = {node.name for _, tree in trees() for node in ast.walk(tree) if isinstance(node, ast.FunctionDef)
                      and any(isinstance(part, (ast.Yield, ast.YieldFrom)) for part in ast.walk(node))}
        self.assertEqual(generators, {"choices", "grown"})
        for name, tree in trees():
            at_once = {id(node.iter) for node in ast.walk(tree) if isinstance(node, (ast.For, ast.comprehension))}
            for node in ast.walk(tree):
                if isinstance(node, ast.Call) and isinstance(node.func, ast.Name) and node.func.id in generators:
                    self.assertIn(id(node), at_once, (name, node.lineno))
                    self.assertTrue(all(isinstance(part, (ast.Name, ast.Constant)) for part in node.args))

    def test_module_level(self):
        for name, tree in trees():
            for node in tree.body:
                docstring = isinstance(node, ast.Expr) and node is tree.body[0]
                kinds = (ast.ImportFrom, ast.FunctionDef, ast.ClassDef, ast.Assign)
                self.assertTrue(docstring or isinstance(node, kinds), (name, node.lineno))


if __name__ == "__main__":
    unittest.main()
