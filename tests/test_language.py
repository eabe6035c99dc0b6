"""Rules of the language subset that can be seen in the text of a file alone: the package keeps them."""

import ast
import builtins
import re
import unittest
from pathlib import Path

PACKAGE = Path(__file__).resolve().parent.parent / "innerasks"
FILES = sorted(path for path in PACKAGE.rglob("*") if "__pycache__" not in path.parts)
BUILTINS = set(
    "len range enumerate zip min max sum abs sorted reversed int str bool bytes list tuple dict set frozenset "
    "isinstance ord repr any all divmod Exception ValueError TypeError KeyError IndexError LookupError "
    "ZeroDivisionError ArithmeticError OverflowError RuntimeError NotImplementedError AttributeError StopIteration "
    "NotImplemented iter next map property staticmethod classmethod super".split()
)
METHODS = set(
    "append clear copy count endswith extend find get index insert isalnum isalpha isdigit islower isspace isupper "
    "items join keys ljust lower lstrip partition pop remove replace reverse rfind rjust rpartition rsplit rstrip "
    "setdefault split splitlines startswith strip update upper values zfill bit_length add discard".split()
)
BARRED = set(
    "type typing typing_extensions enum Enum IntEnum StrEnum Flag IntFlag Generic Protocol ABC ABCMeta namedtuple "
    "NamedTuple TypedDict TYPE_CHECKING abstractmethod register mro elements open input law version_info "
    "with_traceback add_note attrgetter breakpoint builtins compile copyright credits delattr dir eval exec exit gc "
    "getattr globals hasattr help id importlib license locals methodcaller os quit setattr vars sys".split()
)
NODES = (
    ast.Global, ast.AsyncFunctionDef, ast.Await, ast.AsyncFor, ast.AsyncWith, ast.Import, ast.Div, ast.MatMult,
    ast.AnnAssign, ast.YieldFrom, ast.With, ast.Match, ast.NamedExpr,
)
DOUBLE = {"__init__", "__eq__", "__len__", "__contains__", "__getitem__", "__iter__", "__repr__", "__str__"}
TAKE_LISTS = {"any", "all", "min", "max", "sum", "sorted"}


def trees():
    for path in FILES:
        yield path, ast.parse(path.read_text())


def own_methods():
    found = set()
    for _, tree in trees():
        for node in ast.walk(tree):
            if isinstance(node, ast.ClassDef):
                found |= {part.name for part in node.body if isinstance(part, ast.FunctionDef)}
    return found


def is_property(node):
    return any(isinstance(part, ast.Name) and part.id == "property" for part in node.decorator_list)


def functions_by_name():
    found = {}
    for _, tree in trees():
        for node in ast.walk(tree):
            if isinstance(node, ast.FunctionDef):
                found.setdefault(node.name, []).append(node)
    return found


def attributes_stored():
    return {node.attr for _, tree in trees() for node in ast.walk(tree)
            if isinstance(node, ast.Attribute) and isinstance(node.ctx, ast.Store)}


def called_names(node):
    for part in ast.walk(node):
        if isinstance(part, ast.Call):
            yield part.func.id if isinstance(part.func, ast.Name) else part.func.attr


def names_bound(tree):
    for node in ast.walk(tree):
        if isinstance(node, (ast.FunctionDef, ast.ClassDef)):
            yield node, node.name
        elif isinstance(node, ast.arg):
            yield node, node.arg
        elif isinstance(node, ast.Name) and isinstance(node.ctx, ast.Store):
            yield node, node.id


class Language(unittest.TestCase):
    def test_files(self):
        for path in FILES:
            self.assertRegex(path.name, r"^[a-z0-9_]+\.py$")
            text = path.read_text()
            self.assertRegex(text, r"\A[ -~\n]*\Z", path)
            lines = text.split("\n")
            self.assertLessEqual(len(lines), 399, path)
            self.assertLessEqual(max(len(line) for line in lines), 120, path)

    def test_functions_are_short(self):
        for path, tree in trees():
            for node in ast.walk(tree):
                if isinstance(node, ast.FunctionDef):
                    self.assertLessEqual(node.end_lineno - node.lineno + 1, 40, (path, node.name))
                    for decorator in node.decorator_list:
                        self.assertIn(decorator.id, ("property", "staticmethod", "classmethod"))

    def test_nodes(self):
        for path, tree in trees():
            for node in ast.walk(tree):
                self.assertNotIsInstance(node, NODES, (path, getattr(node, "lineno", 0)))
                if isinstance(node, ast.Compare):
                    for sign, side in zip(node.ops, node.comparators):
                        if isinstance(sign, (ast.Is, ast.IsNot)):
                            self.assertIsInstance(side, ast.Constant, (path, node.lineno))

    def test_imports(self):
        users = {}
        for path, tree in trees():
            for node in ast.walk(tree):
                if isinstance(node, ast.ImportFrom):
                    self.assertIn(node, tree.body)
                    head, _, module = node.module.partition(".")
                    self.assertEqual("innerasks", head, path)
                    other = ast.parse((PACKAGE / f"{module}.py").read_text())
                    defined = {name for part in other.body for _, name in names_bound(part)}
                    users.setdefault(path.stem, set()).add(module)
                    for alias in node.names:
                        self.assertIsNone(alias.asname)
                        self.assertIn(alias.name, defined, path)
        settled = set()
        while len(settled) < len(FILES):
            ready = {path.stem for path in FILES if users.get(path.stem, set()) <= settled} - settled
            self.assertTrue(ready, "files import from each other")
            settled |= ready

    def test_imported_names_are_used(self):
        for path, tree in trees():
            told = {node.id for node in ast.walk(tree) if isinstance(node, ast.Name)}
            for node in tree.body:
                if isinstance(node, ast.ImportFrom):
                    self.assertEqual(set(), {alias.name for alias in node.names} - told, path)

    def test_module_level(self):
        for path, tree in trees():
            for node in tree.body:
                if isinstance(node, ast.Expr):
                    self.assertIsInstance(node.value, ast.Constant)
                elif isinstance(node, ast.Assign):
                    self.assertIsInstance(node.targets[0], ast.Name)
                    kinds = (ast.Constant, ast.Tuple, ast.Dict, ast.List, ast.Load)
                    above = {part.name for part in tree.body if isinstance(part, ast.FunctionDef) and part.lineno < node.lineno}
                    for part in ast.walk(node.value):
                        if not isinstance(part, ast.Name) or part.id not in above:
                            self.assertIsInstance(part, kinds, (path, node.lineno))
                else:
                    self.assertIsInstance(node, (ast.ImportFrom, ast.FunctionDef, ast.ClassDef), path)
            names = [name for node in tree.body if not isinstance(node, ast.ImportFrom)
                     for _, name in list(names_bound(node))[:1]]
            self.assertEqual(len(set(names)), len(names), path)

    def test_names(self):
        for path, tree in trees():
            imported = {alias.name for node in tree.body if isinstance(node, ast.ImportFrom) for alias in node.names}
            for node, name in names_bound(tree):
                where = (path, node.lineno, name)
                self.assertNotIn(name, dir(builtins), where)
                self.assertNotIn(name, BARRED, where)
                self.assertNotIn(name, imported, where)
                self.assertRegex(name, r"^_?[A-Za-z][A-Za-z0-9_]*$|^_$|^__[a-z]+__$", where)
                if name.startswith("__"):
                    self.assertIn(name, DOUBLE, where)
            for node in ast.walk(tree):
                if isinstance(node, ast.Name) and isinstance(node.ctx, ast.Load) and node.id in dir(builtins):
                    self.assertIn(node.id, BUILTINS, (path, node.lineno))
                if isinstance(node, ast.Name) and isinstance(node.ctx, ast.Load):
                    self.assertNotEqual("_", node.id, (path, node.lineno))

    def test_methods(self):
        allowed = METHODS | own_methods()
        for path, tree in trees():
            for node in ast.walk(tree):
                if isinstance(node, ast.Call) and isinstance(node.func, ast.Attribute):
                    self.assertIn(node.func.attr, allowed, (path, node.lineno))

    def test_strings(self):
        for path, tree in trees():
            for node in ast.walk(tree):
                if isinstance(node, ast.Constant) and isinstance(node.value, str):
                    self.assertNotIn(chr(37), node.value, (path, node.lineno))
                    words = set(re.findall(r"\w+", node.value))
                    self.assertFalse(words & (BARRED - {"open"}) and " " not in node.value, (path, node.lineno))
                self.assertFalse(isinstance(node, ast.Constant) and isinstance(node.value, (float, complex)))

    def test_lists_are_taken(self):
        for path, tree in trees():
            for node in ast.walk(tree):
                if isinstance(node, ast.Call) and isinstance(node.func, ast.Name) and node.func.id in TAKE_LISTS:
                    for part in node.args:
                        self.assertNotIsInstance(part, ast.GeneratorExp, (path, node.lineno))

    def test_properties_are_no_methods(self):
        properties, methods = set(), set()
        for _, tree in trees():
            for node in ast.walk(tree):
                if isinstance(node, ast.ClassDef):
                    for part in node.body:
                        if isinstance(part, ast.FunctionDef):
                            told = [decorator.id for decorator in part.decorator_list]
                            (properties if "property" in told else methods).add(part.name)
        self.assertEqual(set(), properties & methods)
        attributes = {node.attr for _, tree in trees() for node in ast.walk(tree)
                      if isinstance(node, ast.Attribute) and isinstance(node.ctx, ast.Store)}
        self.assertEqual(set(), attributes & (properties | methods))

    def test_operators_and_properties_call_nothing_that_is_held(self):
        found = functions_by_name()
        stored = attributes_stored()
        waiting = [node for nodes in found.values() for node in nodes
                   if is_property(node) or node.name.startswith("__") and node.name != "__init__"]
        seen = set()
        while waiting:
            node = waiting.pop()
            if id(node) in seen:
                continue
            seen.add(id(node))
            for part in ast.walk(node):
                if isinstance(part, ast.Attribute):
                    self.assertIsInstance(part.ctx, ast.Load, (node.name, part.lineno))
                self.assertNotIsInstance(part, (ast.AugAssign, ast.Delete, ast.Lambda), (node.name, node.lineno))
                if isinstance(part, ast.Call) and isinstance(part.func, ast.Attribute):
                    self.assertNotIn(part.func.attr, stored, (node.name, part.lineno))
                    self.assertNotIn(part.func.attr, ("append", "extend", "pop", "setdefault", "update", "insert"))
            waiting += [other for name in called_names(node) for other in found.get(name, [])]

    def test_generators(self):
        found = functions_by_name()
        generators = {name for name, nodes in found.items() for node in nodes
                      if any(isinstance(part, ast.Yield) for part in ast.walk(node))}
        self.assertLessEqual({"walk", "least_keys"}, generators)
        self.assertEqual(set(), generators & attributes_stored())
        for name in generators:
            for node in found[name]:
                self.assertTrue(any(isinstance(part, ast.Yield) for part in ast.walk(node)), name)
                self.assertEqual([], node.decorator_list)
        iterated = set()
        for path, tree in trees():
            for node in ast.walk(tree):
                if isinstance(node, (ast.For, ast.comprehension)):
                    iterated.add(id(node.iter))
            for node in ast.walk(tree):
                if isinstance(node, ast.Call) and isinstance(node.func, (ast.Name, ast.Attribute)):
                    name = node.func.id if isinstance(node.func, ast.Name) else node.func.attr
                    if name in generators:
                        self.assertIn(id(node), iterated, (path, node.lineno))

    def test_tries(self):
        errors = {node.name for _, tree in trees() for node in tree.body if isinstance(node, ast.ClassDef)
                  and any(isinstance(base, ast.Name) and base.id in BUILTINS for base in node.bases)}
        for path, tree in trees():
            for node in ast.walk(tree):
                if isinstance(node, ast.Try):
                    for handler in node.handlers:
                        self.assertIsInstance(handler.type, ast.Name, (path, node.lineno))
                        self.assertIn(handler.type.id, errors, (path, node.lineno))
                    for part in node.finalbody:
                        self.assertIsInstance(part, ast.Assign, (path, node.lineno))
                        simple = (ast.Tuple, ast.Name, ast.Attribute, ast.Load, ast.Store, ast.Assign)
                        for inner in ast.walk(part):
                            self.assertIsInstance(inner, simple, (path, node.lineno))
                    self.assertFalse(any(isinstance(part, ast.Yield) for part in ast.walk(node)), (path, node.lineno))

    def test_tables_of_functions(self):
        # A function from a table gets a name before it is called.
        for path, tree in trees():
            for node in ast.walk(tree):
                if isinstance(node, ast.Call):
                    self.assertIsInstance(node.func, (ast.Name, ast.Attribute), (path, node.lineno))
                if isinstance(node, ast.Attribute) and node.attr in ("__class__", "__name__"):
                    self.assertIsInstance(node.value, (ast.Name, ast.Attribute), (path, node.lineno))

    def test_reversed_and_stars(self):
        for path, tree in trees():
            for node in ast.walk(tree):
                if isinstance(node, ast.Call) and isinstance(node.func, ast.Name) and node.func.id == "reversed":
                    part = node.args[0]
                    self.assertIsInstance(part, ast.Call, (path, node.lineno))
                    self.assertIn(part.func.id, ("list", "tuple", "sorted", "range"), (path, node.lineno))
                if isinstance(node, ast.Starred):
                    # An attribute off a name, but no property.
                    is_own = isinstance(node.value, ast.Attribute) and node.value.attr.startswith("_")
                    held = node.value.value if is_own else node.value
                    self.assertIsInstance(held, ast.Name, (path, node.lineno))

    def test_every_function_of_the_package_is_used(self):
        used = {node.attr if isinstance(node, ast.Attribute) else node.id
                for _, tree in trees() for node in ast.walk(tree) if isinstance(node, (ast.Attribute, ast.Name))}
        told = set(
            "read_question write_question bind answer run compiled flat facts place_of has_single_match replaced first_break "
            "follows least_keys behind at put renamed all_names fits laid places all_places follow is_road home road_between "
            "parted tells_apart links best_ways expanded ask plan_of define prepare drop apply undo redo trial replayed "
            "write_plan read_plan write_database read_database".split()
        )
        for name, nodes in functions_by_name().items():
            if not name.startswith("__") and not any(is_property(node) for node in nodes):
                self.assertIn(name, used | told)


if __name__ == "__main__":
    unittest.main()
