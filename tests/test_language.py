"""Rules of the language subset that a look at the program's text can tell.

Some checks are stricter than the rule, where the program does without.
"""

import ast
import re
import unittest
import warnings
from pathlib import Path

PACKAGE = Path(__file__).resolve().parent.parent / "surelywhole"
FILES = sorted(PACKAGE.rglob("*.py"))

BUILTINS = set(
    "len range enumerate zip min max sum abs sorted reversed int str bool list tuple dict set isinstance ord repr "
    "any all divmod Exception ValueError TypeError KeyError IndexError LookupError ZeroDivisionError "
    "RuntimeError NotImplementedError NotImplemented super property iter".split()
)
METHODS = set(
    "append clear copy count endswith extend find get index insert isalnum isalpha isdigit islower isspace isupper "
    "items join keys ljust lower lstrip partition pop remove replace reverse rfind rjust rpartition rsplit rstrip "
    "setdefault split splitlines startswith strip update upper values zfill bit_length removeprefix "
    "removesuffix".split()
)
DUNDERS = set(
    "__init__ __eq__ __repr__ __str__ __len__ __enter__ __exit__ __iter__ __le__ __and__ __or__ __contains__ "
    "__getitem__ __setitem__".split()
)
BARRED = set(
    "type typing typing_extensions enum Enum IntEnum StrEnum Flag IntFlag Generic Protocol ABC ABCMeta namedtuple "
    "NamedTuple TypedDict TYPE_CHECKING abstractmethod register mro elements open input law version_info eval exec "
    "compile globals locals id vars dir help exit quit builtins importlib gc os sys".split()
)
NODES = (
    ast.GeneratorExp, ast.Set, ast.SetComp, ast.Div, ast.Global, ast.AsyncFunctionDef, ast.Await, ast.NamedExpr,
    ast.Lambda, ast.Yield, ast.YieldFrom, ast.Import,
)
PLAIN = ("int", "len", "ord", "str", "repr")
CHANGING = ("append", "setdefault", "extend", "insert", "pop", "remove", "reverse", "update", "clear")
OPERATORS = ("__le__", "__and__", "__or__", "__contains__", "__getitem__", "__eq__", "__iter__", "__len__")


class Rules(unittest.TestCase):

    def setUp(self):
        self.texts = {path: path.read_text(encoding="utf-8") for path in FILES}
        self.trees = {path: ast.parse(text) for path, text in self.texts.items()}
        self.own_methods = {
            node.name for tree in self.trees.values() for owner in ast.walk(tree) if isinstance(owner, ast.ClassDef)
            for node in owner.body if isinstance(node, ast.FunctionDef)
        }

    def nodes(self, *kinds):
        for path, tree in self.trees.items():
            for node in ast.walk(tree):
                if isinstance(node, kinds):
                    yield f"{path.name}:{getattr(node, 'lineno', 0)}", node

    def test_l1_files(self):
        for path in PACKAGE.rglob("*"):
            if "__pycache__" not in path.parts:
                self.assertTrue(path.is_dir() or re.fullmatch("[a-z0-9_]+[.]py", path.name), path)
                self.assertFalse(path.is_symlink(), path)

    def test_l2_l16_imports(self):
        uses = {path.stem: set() for path in FILES}
        for path, tree in self.trees.items():
            for node in ast.walk(tree):
                if isinstance(node, ast.ImportFrom) and node.module == "itertools":
                    self.assertLessEqual({alias.name for alias in node.names}, {"combinations"}, path)
                elif isinstance(node, ast.ImportFrom):
                    self.assertEqual(node.level, 0, path)
                    package, _, module = node.module.partition(".")
                    self.assertEqual(package, "surelywhole", path)
                    target = self.trees[PACKAGE / f"{module}.py"]
                    defined = {item.name for item in target.body if isinstance(item, (ast.FunctionDef, ast.ClassDef))}
                    for alias in node.names:
                        self.assertIn(alias.name, defined, path)
                        self.assertIsNone(alias.asname, path)
                    uses[path.stem].add(module)
        while uses:
            last = [name for name, used in uses.items() if not used & set(uses)]
            self.assertTrue(last, f"files that import from each other: {sorted(uses)}")
            for name in last:
                del uses[name]

    def test_l3_module_level(self):
        allowed = (ast.Expr, ast.ImportFrom, ast.FunctionDef, ast.ClassDef, ast.Assign)
        for path, tree in self.trees.items():
            self.assertTrue(ast.get_docstring(tree), path)
            for node in tree.body:
                self.assertIsInstance(node, allowed, path)

    def test_l4_l5_no_decorators_and_known_methods(self):
        for where, node in self.nodes(ast.FunctionDef):
            self.assertEqual(node.decorator_list, [], where)
            if node.name.startswith("__"):
                self.assertIn(node.name, DUNDERS, where)

    def test_l5_l24_what_the_program_does_without(self):
        for where, node in self.nodes(*NODES):
            self.fail(f"{where} {node}")
        for where, node in self.nodes(ast.Attribute):
            self.assertNotEqual(node.attr, "sort", where)

    def test_l5_what_sorted_min_and_max_take(self):
        for where, node in self.nodes(ast.Call):
            if isinstance(node.func, ast.Name) and node.func.id in ("sorted", "min", "max"):
                if node.keywords:
                    self.assertEqual([ast.unparse(keyword) for keyword in node.keywords], ["key=str"], where)
                elif len(node.args) == 2:
                    self.assertIn("len", [one.func.id for one in node.args if isinstance(one, ast.Call)], where)
                else:
                    [given] = node.args
                    self.assertIsInstance(given, ast.ListComp, where)
                    self.assertIn(given.elt.func.id, PLAIN, where)

    def test_l5_operators_change_nothing(self):
        """No function that an operator runs assigns an attribute or an item, but for the __init__ of a new object."""
        defined, waiting = {}, []
        for where, node in self.nodes(ast.FunctionDef):
            defined.setdefault(node.name, []).append((where, node))
            if node.name in OPERATORS:
                waiting.append((where, node))
        for where, node in self.nodes(ast.ClassDef):
            starts = [item for item in node.body if isinstance(item, ast.FunctionDef) and item.name == "__init__"]
            defined.setdefault(node.name, []).extend([(where, item) for item in starts])
        seen = []
        while waiting:
            where, function = waiting.pop()
            if function in seen:
                continue
            seen.append(function)
            for node in ast.walk(function):
                if isinstance(node, ast.Attribute) and not isinstance(node.ctx, ast.Load):
                    self.assertEqual((function.name, ast.unparse(node.value)), ("__init__", "self"), where)
                changed = node.value if isinstance(node, ast.Subscript) and not isinstance(node.ctx, ast.Load) else None
                if isinstance(node, ast.Call) and isinstance(node.func, ast.Attribute) and node.func.attr in CHANGING:
                    changed = node.func.value
                if changed is not None:
                    self.assertIn(ast.unparse(changed), self.created(function), where)
                if isinstance(node, ast.AugAssign):
                    self.assertIsInstance(node.value, ast.Constant, where)
                if isinstance(node, ast.Call):
                    name = node.func.id if isinstance(node.func, ast.Name) else node.func.attr
                    waiting += defined.get(name, [])
        self.assertGreater(len(seen), 30)

    def created(self, function):
        """The local variables that are only ever assigned a new list or dict."""
        parameters = [one.arg for one in function.args.args]
        given = {}
        for node in ast.walk(function):
            if isinstance(node, ast.Assign):
                for target in node.targets:
                    given.setdefault(ast.unparse(target), []).append(node.value)
        new = (ast.List, ast.Dict, ast.ListComp, ast.DictComp)
        return [
            name for name, values in given.items() if name not in parameters and all(
                isinstance(value, new) or ast.unparse(value).startswith(("list(", "dict(")) for value in values
            )
        ]

    def test_l5_iteration_and_l6_with(self):
        for where, node in self.nodes(ast.ClassDef):
            named = {item.name: item for item in node.body if isinstance(item, ast.FunctionDef)}
            if "__getitem__" in named:
                self.assertIn("__iter__", named, where)
            if "__iter__" in named:
                [only] = named["__iter__"].body
                self.assertRegex(ast.unparse(only), r"^return iter\(self\.\w+\)$", where)
            if "__exit__" in named:
                self.assertIn("__enter__", named, where)
                self.assertEqual([one.arg for one in named["__exit__"].args.args], ["self", "kind", "value", "trace"], where)
                for item in named["__exit__"].body:
                    self.assertRegex(ast.unparse(item), r"^\w+(\.\w+)? = self\.\w+$", where)

    def test_l2_products(self):
        for where, node in self.nodes(ast.Call):
            if isinstance(node.func, ast.Name) and node.func.id == "combinations":
                self.assertRegex(ast.unparse(node), r"^combinations\(range\(len\(\w+\)\), size\)$", where)

    def test_l8_builtins(self):
        for path, tree in self.trees.items():
            own = {node.id for node in ast.walk(tree) if isinstance(node, ast.Name) and isinstance(node.ctx, ast.Store)}
            own |= {node.arg for node in ast.walk(tree) if isinstance(node, ast.arg)}
            own |= {node.name for node in ast.walk(tree) if isinstance(node, (ast.FunctionDef, ast.ClassDef))}
            own |= {item.name for node in ast.walk(tree) if isinstance(node, ast.ImportFrom) for item in node.names}
            self.assertEqual(own & set(dir(__builtins__) if not isinstance(__builtins__, dict) else __builtins__), set())
            for node in ast.walk(tree):
                if isinstance(node, ast.Name) and node.id not in own:
                    self.assertIn(node.id, BUILTINS, f"{path.name}:{node.lineno}")

    def test_l10_size(self):
        for path, text in self.texts.items():
            self.assertLessEqual(len(text.splitlines()), 399, path)
            for line in text.splitlines():
                self.assertLessEqual(len(line), 120, (path, line))
        for where, node in self.nodes(ast.FunctionDef):
            self.assertLessEqual(node.end_lineno - node.lineno + 1, 40, where)

    def test_l12_l14_l17_l27_words_and_characters(self):
        for path, text in self.texts.items():
            self.assertTrue(all(sign == "\n" or " " <= sign <= "~" for sign in text), path)
            code = "\n".join(line for line in text.splitlines() if not line.strip().startswith(("#", '"""')))
            self.assertEqual(set(re.findall(r"\w+", code)) & BARRED, set(), path)
        for where, node in self.nodes(ast.Constant):
            if isinstance(node.value, str):
                self.assertNotIn("%", node.value, where)
            self.assertNotIsInstance(node.value, float, where)

    def test_l15_names_of_classes_and_imports(self):
        for path, tree in self.trees.items():
            taken = {item.name for node in tree.body if isinstance(node, ast.ImportFrom) for item in node.names}
            taken |= {node.name for node in tree.body if isinstance(node, ast.ClassDef)}
            local = {node.arg for node in ast.walk(tree) if isinstance(node, ast.arg)}
            local |= {node.id for node in ast.walk(tree) if isinstance(node, ast.Name) and isinstance(node.ctx, ast.Store)}
            self.assertEqual(local & taken, set(), path)

    def test_l18_l26_no_name_is_a_method_and_an_attribute(self):
        for where, node in self.nodes(ast.Attribute):
            if isinstance(node.ctx, ast.Store):
                self.assertNotIn(node.attr, self.own_methods | METHODS | {"sort", "args", "format"}, where)

    def test_l20_is(self):
        for where, node in self.nodes(ast.Compare):
            for sign, side in zip(node.ops, node.comparators):
                if isinstance(sign, (ast.Is, ast.IsNot)):
                    self.assertIsInstance(side, ast.Constant, where)

    def test_l25_methods(self):
        for where, node in self.nodes(ast.Call):
            if isinstance(node.func, ast.Attribute):
                self.assertIn(node.func.attr, METHODS | self.own_methods, where)

    def test_l27_no_warnings(self):
        with warnings.catch_warnings():
            warnings.simplefilter("error")
            for path, text in self.texts.items():
                compile(text, str(path), "exec")


class Interface(unittest.TestCase):

    def bodies(self, module):
        tree = ast.parse((PACKAGE / f"{module}.py").read_text(encoding="utf-8"))
        return {node.name: node for node in tree.body if isinstance(node, (ast.FunctionDef, ast.ClassDef))}

    def test_everything_stands_in_its_own_file(self):
        listed = {
            "errors": "WholeError UnknownTable Ring BadPart Unbound Clash NoPromise MayLack NotWhole",
            "schemas": "Table Schema",
            "questions": "Question Promise",
            "books": "Book",
            "deciding": "decide Derivation Pair parting supports weakest widest pair_lines",
            "stores": "Store sure_with Desk",
        }
        for module, names in listed.items():
            self.assertLessEqual(set(names.split()), set(self.bodies(module)), module)

    def test_every_method_stands_in_its_own_class(self):
        listed = {
            ("schemas", "Schema"): "table holds",
            ("questions", "Question"): "__le__ __and__",
            ("questions", "Promise"): "__eq__ kept",
            ("books", "Book"): "__contains__ __iter__ make withdraw __le__ __or__ __and__ held kept",
            ("stores", "Store"): "__getitem__ __setitem__ __iter__ __contains__ answers sure total none",
            ("stores", "Desk"): "watch is_whole make withdraw",
        }
        for (module, name), methods in listed.items():
            body = self.bodies(module)[name].body
            own = {node.name for node in body if isinstance(node, ast.FunctionDef)}
            self.assertLessEqual({"__init__", *methods.split()}, own, name)
