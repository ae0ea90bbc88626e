"""The package keeps to the small part of Python that it's written in (as far as a walk through its files can see)."""
import ast
import os
import re
import unittest

PACKAGE = os.path.join(os.path.dirname(os.path.dirname(os.path.abspath(__file__))), "laidout")

FREE_NAMES = set("""len range enumerate zip min max sum abs sorted reversed int str bool list tuple dict set frozenset
isinstance ord repr any all divmod Exception ValueError TypeError KeyError IndexError LookupError ZeroDivisionError
ArithmeticError OverflowError RuntimeError NotImplementedError AttributeError StopIteration""".split())

FREE_METHODS = set("""append clear copy count endswith extend find get index insert isalnum isalpha isdigit islower
isspace isupper items join keys ljust lower lstrip partition pop remove replace reverse rfind rjust rpartition rsplit
rstrip setdefault split splitlines startswith strip update upper values zfill bit_length""".split())

OUT_NAMES = set("""register mro elements open input version_info with_traceback add_note attrgetter breakpoint builtins
compile copyright credits delattr dir eval exec exit gc getattr globals hasattr help id importlib license locals
methodcaller os quit setattr super type vars sys format format_map chr print map filter hash next iter""".split())

OUT_WORDS = re.compile(r"\b(type|typing|typing_extensions|enum|Enum|IntEnum|StrEnum|Flag|IntFlag|Generic|Protocol|ABC|"
                       r"ABCMeta|namedtuple|NamedTuple|TypedDict|TYPE_CHECKING|abstractmethod)\b"
                       r"|dataclass|overload|contextmanager")

NODES = set("""Module Expr Constant ImportFrom alias FunctionDef arguments arg ClassDef Assign AugAssign Name Load Store
If While For Return Break Continue Pass Call Attribute Subscript Slice List Tuple Dict ListComp comprehension Lambda
BinOp BoolOp UnaryOp Compare IfExp keyword And Or Not USub Add Sub Mult FloorDiv Mod Eq NotEq Lt LtE Gt GtE In NotIn Is
IsNot JoinedStr FormattedValue""".split())

CALLS = {"format_text": "width text", "is_laid": "width text", "cost": "width text", "edits": "width text",
         "place": "width at back text", "same": "text other", "outline": "text", "folds": "text"}

WALKERS = set("zip enumerate reversed range".split())
AROUND_WALKERS = set("list tuple dict sorted sum any all enumerate zip min max".split())


def python_files():
    return sorted(name for name in os.listdir(PACKAGE) if name != "__pycache__")


def source(name):
    with open(os.path.join(PACKAGE, name), encoding="ascii") as lines:
        return lines.read()


def own_methods():
    found = set()
    for name in python_files():
        for node in ast.walk(ast.parse(source(name))):
            if isinstance(node, ast.ClassDef):
                found.update(item.name for item in node.body if isinstance(item, ast.FunctionDef))
    return found


class Language(unittest.TestCase):
    def each(self):
        for name in python_files():
            with self.subTest(file=name):
                yield name, ast.parse(source(name))

    def test_files(self):
        for name in python_files():
            self.assertRegex(name, r"^[a-z][a-z0-9_]*\.py$|^__init__\.py$")
            lines = source(name).split("\n")
            self.assertLess(len(lines), 400, name)
            for line in lines:
                self.assertLessEqual(len(line), 120, line)
                self.assertRegex(line, r"^[ -~]*$")
            self.assertIsNone(OUT_WORDS.search(source(name)), name)

    def test_tops(self):
        for name, tree in self.each():
            self.assertIsNotNone(ast.get_docstring(tree))
            bound = []
            for node in tree.body[1:]:
                self.assertIsInstance(node, (ast.ImportFrom, ast.FunctionDef, ast.ClassDef, ast.Assign))
                if isinstance(node, ast.ImportFrom):
                    self.assertTrue(node.module.startswith("laidout."))
                    self.assertEqual(node.level, 0)
                    bound.extend(alias.name for alias in node.names)
                    self.assertTrue(all(alias.asname is None and alias.name != "*" for alias in node.names))
                elif isinstance(node, ast.Assign):
                    self.assertIsInstance(node.targets[0], ast.Name)
                    bound.append(node.targets[0].id)
                    self.plain(node.value, True)
                else:
                    bound.append(node.name)
            self.assertEqual(len(bound), len(set(bound)))

    def plain(self, node, outermost):
        """A value of a file's top: lists and dicts stand outermost alone."""
        if isinstance(node, ast.Constant):
            self.assertIn(node.value.__class__, (int, str, bool, None.__class__))
        elif isinstance(node, ast.Tuple) or (outermost and isinstance(node, ast.List)):
            for part in node.elts:
                self.plain(part, False)
        else:
            self.assertTrue(outermost and isinstance(node, ast.Dict), ast.dump(node))
            for part in node.keys + node.values:
                self.plain(part, False)

    def test_nodes(self):
        for name, tree in self.each():
            for node in ast.walk(tree):
                kind = node.__class__.__name__
                self.assertIn(kind, NODES, getattr(node, "lineno", 0))
                if kind == "Assign":
                    self.assertEqual(len(node.targets), 1)
                elif kind in ("While", "For"):
                    self.assertEqual(node.orelse, [])
                elif kind == "ListComp":
                    self.assertEqual(len(node.generators), 1)
                    self.assertLessEqual(len(node.generators[0].ifs), 1)
                elif kind == "Constant":
                    self.assertIn(node.value.__class__, (int, str, bool, None.__class__))
                    self.assertNotIn("%", node.value if isinstance(node.value, str) else "")
                elif kind == "Compare":
                    for sign, right in zip(node.ops, node.comparators):
                        if isinstance(sign, (ast.Is, ast.IsNot)):
                            self.assertIsInstance(right, ast.Constant)
                elif kind == "FunctionDef":
                    self.assertLessEqual(node.end_lineno - node.lineno + 1, 40, node.name)
                    self.assertEqual((node.decorator_list, node.returns), ([], None))
                    args = node.args
                    self.assertEqual((args.posonlyargs, args.vararg, args.kwonlyargs, args.kwarg), ([], None, [], None))
                elif kind == "Expr" and not isinstance(node.value, ast.Constant):
                    self.assertIsInstance(node.value, ast.Call)

    def test_names(self):
        methods = own_methods()
        for name, tree in self.each():
            known = set(FREE_NAMES)
            tops = set()
            for node in tree.body:
                if isinstance(node, ast.ImportFrom):
                    tops.update(alias.name for alias in node.names)
                elif isinstance(node, ast.ClassDef):
                    tops.add(node.name)
            for node in ast.walk(tree):
                if isinstance(node, (ast.FunctionDef, ast.ClassDef)):
                    known.add(node.name)
                if isinstance(node, ast.Name) and isinstance(node.ctx, ast.Store) or isinstance(node, ast.arg):
                    word = node.arg if isinstance(node, ast.arg) else node.id
                    self.assertNotIn(word, tops)
                    self.assertNotIn(word, FREE_NAMES | OUT_NAMES)
                    self.assertNotIn(word, dir(__builtins__) if not isinstance(__builtins__, dict) else __builtins__)
                    known.add(word)
            known |= tops
            for node in ast.walk(tree):
                if isinstance(node, ast.Name):
                    self.assertIn(node.id, known, node.lineno)
                    self.assertFalse(node.id.startswith("_"))
                    self.assertNotIn(node.id, OUT_NAMES)
                elif isinstance(node, ast.Attribute):
                    self.assertFalse(node.attr.startswith("_"))
                    self.assertNotIn(node.attr, OUT_NAMES)
                elif isinstance(node, ast.Call) and isinstance(node.func, ast.Attribute):
                    self.assertIn(node.func.attr, FREE_METHODS | methods, node.lineno)

    def test_methods_are_no_values(self):
        values = set()
        for name, tree in self.each():
            for node in ast.walk(tree):
                if isinstance(node, ast.Attribute) and isinstance(node.ctx, ast.Store):
                    values.add(node.attr)
        self.assertEqual(values & own_methods(), set())
        taken = set()
        for kind in (str, int, list, dict, set, bytes):
            taken.update(dir(kind))
        self.assertEqual((values | own_methods()) & taken - {"__init__", "count", "index"}, set())

    def test_walked_at_once(self):
        for name, tree in self.each():
            fine = set()
            for node in ast.walk(tree):
                if isinstance(node, (ast.For, ast.comprehension)):
                    fine.add(node.iter)
                elif isinstance(node, ast.Call) and isinstance(node.func, ast.Name) and node.args:
                    if node.func.id in AROUND_WALKERS:
                        fine.add(node.args[0])
            for node in ast.walk(tree):
                if isinstance(node, ast.Call) and isinstance(node.func, ast.Name) and node.func.id in WALKERS:
                    self.assertIn(node, fine, node.lineno)
                    self.assertTrue(node.args)

    def test_no_file_draws_from_another_that_draws_from_it(self):
        drawn = {}
        for name, tree in self.each():
            drawn[name[:-3]] = {node.module.split(".")[1] for node in tree.body if isinstance(node, ast.ImportFrom)}
        order = []
        while len(order) < len(drawn):
            free = [name for name in drawn if name not in order and drawn[name] <= set(order)]
            self.assertTrue(free, drawn)
            order.extend(free)

    def test_interface(self):
        defs = {}
        for node in ast.parse(source("layouts.py")).body:
            if isinstance(node, ast.FunctionDef):
                defs[node.name] = [arg.arg for arg in node.args.args]
                self.assertEqual(node.args.defaults, [])
        for call, parameters in CALLS.items():
            self.assertEqual(defs[call], parameters.split())
        for name in python_files():
            if name != "layouts.py":
                tops = {node.name for node in ast.parse(source(name)).body if hasattr(node, "name")}
                self.assertEqual(tops & set(CALLS), set(), name)


if __name__ == "__main__":
    unittest.main()
