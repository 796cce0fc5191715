"""The package's files against part of the language's rules.

Looked at, wholly or in part: L1 to L8, L10, L12 to L28. Where that is simpler to see, more is asked than the rules do:
no set, no lambda, no error taken or raised, no method with two underscores but __init__. The others (L9, L11) and what
is left of these are left to the eye.
"""

import ast
import builtins
import re
import unittest
from pathlib import Path

PACKAGE = Path(__file__).resolve().parent.parent / "onexpression"

STATEMENTS = (ast.Assign, ast.AugAssign, ast.If, ast.While, ast.For, ast.Return, ast.Break, ast.Continue, ast.Pass,
              ast.Raise, ast.Try, ast.ExceptHandler, ast.Expr, ast.FunctionDef, ast.ClassDef, ast.ImportFrom,
              ast.Module)
EXPRESSIONS = (ast.Constant, ast.List, ast.Tuple, ast.Dict, ast.Set, ast.BinOp, ast.UnaryOp, ast.BoolOp, ast.Compare,
               ast.IfExp, ast.Call, ast.Attribute, ast.Subscript, ast.Slice, ast.ListComp, ast.comprehension,
               ast.JoinedStr, ast.FormattedValue, ast.Name, ast.Lambda, ast.keyword)
PLUMBING = (ast.operator, ast.unaryop, ast.boolop, ast.cmpop, ast.expr_context, ast.arguments, ast.arg, ast.alias)
OWN_NAMES = set("""len range enumerate zip min max sum abs sorted reversed int str bool list tuple dict set frozenset
    isinstance ord repr any all divmod Exception ValueError TypeError KeyError IndexError LookupError
    ZeroDivisionError ArithmeticError OverflowError RuntimeError NotImplementedError AttributeError
    StopIteration""".split())
METHODS = set("""append clear copy count endswith extend find get index insert isalnum isalpha isdigit islower isspace
    isupper items join keys ljust lower lstrip partition pop remove replace reverse rfind rjust rpartition rsplit
    rstrip setdefault split splitlines startswith strip update upper values zfill bit_length""".split())
CHANGES = set("append clear extend insert pop remove reverse setdefault update".split())
OBJECT_VALUES = set("count index title find get join lower upper split strip copy add".split())
TAKEN = {name for kind in (str, int, list, dict, set, bytes, tuple) for name in dir(kind)}
UNUSED = set("""register mro elements open input version_info with_traceback add_note attrgetter breakpoint builtins
    compile copyright credits delattr dir eval exec exit gc getattr globals hasattr help id importlib license locals
    methodcaller os quit setattr super type vars sys format format_map args encode""".split())
UNUSED_WORDS = re.compile(r"\b(type|typing|typing_extensions|enum|Enum|IntEnum|StrEnum|Flag|IntFlag|Generic|Protocol"
                          r"|ABC|ABCMeta|namedtuple|NamedTuple|TypedDict|TYPE_CHECKING|abstractmethod)\b"
                          r"|dataclass|overload|contextmanager")
PLAIN_NAME = re.compile(r"[A-Za-z][A-Za-z0-9_]*\Z|__(init|eq|repr|str|len)__\Z")


def sources():
    return {path.name: path.read_text("utf-8") for path in sorted(PACKAGE.glob("*.py"))}


class LanguageTest(unittest.TestCase):
    def setUp(self):
        self.sources = sources()
        self.trees = {name: ast.parse(text) for name, text in self.sources.items()}

    def nodes(self, *kinds):
        for name, tree in self.trees.items():
            for node in ast.walk(tree):
                if isinstance(node, kinds or ast.AST):
                    yield f"{name}:{getattr(node, 'lineno', 0)}", node

    def test_files(self):
        for path in PACKAGE.iterdir():
            if path.name != "__pycache__":
                self.assertRegex(path.name, r"\A([a-z][a-z0-9_]*|__init__)\.py\Z")
                self.assertNotIn(path.stem, dir(builtins))
        self.assertIn("__init__.py", self.sources)

    def test_size_and_signs(self):
        for name, text in self.sources.items():
            lines = text.split("\n")
            self.assertLessEqual(len(lines), 401, name)
            for number, line in enumerate(lines, 1):
                self.assertLessEqual(len(line), 120, f"{name}:{number}")
                self.assertRegex(line, r"\A[ -~]*\Z", f"{name}:{number}")
            self.assertIsNone(UNUSED_WORDS.search(text), name)
        for where, node in self.nodes(ast.FunctionDef):
            self.assertLessEqual(node.end_lineno - node.lineno + 1, 40, where)

    def test_statements_and_expressions(self):
        for where, node in self.nodes():
            self.assertIsInstance(node, STATEMENTS + EXPRESSIONS + PLUMBING, where)
            self.assertNotIsInstance(node, (ast.Div, ast.MatMult), where)
            if isinstance(node, (ast.For, ast.While)):
                self.assertEqual(node.orelse, [], where)
            if isinstance(node, ast.Assign):
                self.assertEqual(len(node.targets), 1, where)
                self.assertIsInstance(node.targets[0], (ast.Name, ast.Attribute, ast.Subscript), where)
            if isinstance(node, ast.Try):
                self.assertEqual(node.finalbody, [], where)
            if isinstance(node, ast.Expr):
                self.assertIsInstance(node.value, (ast.Call, ast.Constant), where)
            if isinstance(node, ast.ListComp):
                self.assertEqual(len(node.generators), 1, where)
                self.assertLessEqual(len(node.generators[0].ifs), 1, where)
            if isinstance(node, ast.Compare) and any(isinstance(sign, (ast.Is, ast.IsNot)) for sign in node.ops):
                self.assertTrue(all(isinstance(side, ast.Constant) for side in node.comparators), where)

    def test_constants(self):
        for where, node in self.nodes(ast.Constant):
            self.assertIn(type(node.value), (int, str, bool, type(None)), where)
            if isinstance(node.value, str):
                self.assertNotIn("%", node.value, where)

    def test_imports(self):
        drawn = {}
        for name, tree in self.trees.items():
            found = [node for node in ast.walk(tree) if isinstance(node, ast.ImportFrom)]
            drawn[name] = [node.module.split(".")[1] + ".py" for node in found]
            for node in found:
                self.assertIn(node, tree.body)
                self.assertEqual((node.level, node.module.split(".")[0]), (0, "onexpression"), name)
                defined = self.top_names(self.trees[node.module.split(".")[1] + ".py"])
                for alias in node.names:
                    self.assertIn(alias.name, defined, name)
                    self.assertIsNone(alias.asname, name)
        while drawn:
            free = [name for name, needed in drawn.items() if not set(needed) & set(drawn)]
            self.assertTrue(free, f"files that draw from one another: {sorted(drawn)}")
            drawn = {name: needed for name, needed in drawn.items() if name not in free}

    @staticmethod
    def top_names(tree):
        names = [node.name for node in tree.body if isinstance(node, (ast.FunctionDef, ast.ClassDef))]
        return names + [node.targets[0].id for node in tree.body if isinstance(node, ast.Assign)]

    def test_the_top_of_a_module(self):
        for name, tree in self.trees.items():
            names = self.top_names(tree)
            self.assertEqual(len(names), len(set(names)), name)
            self.assertIsNotNone(ast.get_docstring(tree), name)
            for node in tree.body[1:]:
                self.assertIsInstance(node, (ast.ImportFrom, ast.FunctionDef, ast.ClassDef, ast.Assign), name)
                if isinstance(node, ast.Assign):
                    functions = {node.name for node in tree.body if isinstance(node, ast.FunctionDef)}
                    for inner in ast.walk(node.value):
                        self.assertIsInstance(inner, (ast.Constant, ast.List, ast.Tuple, ast.Dict, ast.Name,
                                                      ast.expr_context), name)
                        if isinstance(inner, ast.Name):
                            self.assertIn(inner.id, functions, name)

    def test_functions_and_classes(self):
        for where, node in self.nodes(ast.FunctionDef, ast.ClassDef):
            self.assertEqual(node.decorator_list, [], where)
            if isinstance(node, ast.FunctionDef):
                given = node.args
                self.assertFalse(given.vararg or given.kwarg or given.kwonlyargs or given.posonlyargs, where)
                self.assertIsNone(node.returns, where)
            else:
                self.assertLessEqual(len(node.bases), 1, where)
                for inner in node.body:
                    documented = isinstance(inner, ast.Expr) and isinstance(inner.value, ast.Constant)
                    self.assertTrue(documented or isinstance(inner, ast.FunctionDef), where)

    def test_names(self):
        for name, tree in self.trees.items():
            drawn = [alias.name for node in ast.walk(tree) if isinstance(node, ast.ImportFrom) for alias in node.names]
            classes = [node.name for node in tree.body if isinstance(node, ast.ClassDef)]
            for node in ast.walk(tree):
                where = f"{name}:{getattr(node, 'lineno', 0)}"
                if isinstance(node, ast.Name):
                    self.assertRegex(node.id, PLAIN_NAME, where)
                    if isinstance(node.ctx, ast.Load) and node.id in dir(builtins):
                        self.assertIn(node.id, OWN_NAMES, where)
                bound = node.arg if isinstance(node, ast.arg) else None
                if isinstance(node, ast.Name) and isinstance(node.ctx, ast.Store):
                    bound = node.id
                if bound is not None:
                    self.assertRegex(bound, PLAIN_NAME, where)
                    self.assertNotIn(bound, [*drawn, *classes, *dir(builtins), *UNUSED], where)
                if isinstance(node, (ast.FunctionDef, ast.ClassDef)):
                    self.assertRegex(node.name, PLAIN_NAME, where)
                    self.assertNotIn(node.name, UNUSED, where)

    def test_what_the_package_does_without(self):
        for where, node in self.nodes():
            self.assertNotIsInstance(node, (ast.Set, ast.Lambda, ast.Try, ast.Raise, ast.Pow, ast.JoinedStr), where)
            if isinstance(node, ast.Name):
                self.assertNotIn(node.id, ("set", "frozenset"), where)
            if isinstance(node, ast.FunctionDef) and node.name.startswith("__"):
                self.assertEqual(node.name, "__init__", where)
                self.assertFalse([inner for inner in ast.walk(node) if isinstance(inner, ast.Return)], where)

    def test_own_names_are_called_where_they_stand(self):
        walked = [node.iter for _, node in self.nodes(ast.For, ast.comprehension)]
        called = [node.func for _, node in self.nodes(ast.Call)]
        for where, node in self.nodes(ast.Name):
            if node.id in OWN_NAMES:
                self.assertIn(node, called, where)
        for where, node in self.nodes(ast.Call):
            name = node.func.id if isinstance(node.func, ast.Name) else getattr(node.func, "attr", "")
            if name in ("zip", "enumerate", "reversed", "range", "items", "keys", "values"):
                self.assertIn(node, walked, where)
            for keyword in node.keywords:
                self.assertIn((name, keyword.arg), [("max", "default"), ("min", "default")], where)

    def test_what_is_walked_is_not_changed(self):
        for where, loop in self.nodes(ast.For):
            names = {ast.unparse(node) for node in ast.walk(loop.iter) if isinstance(node, (ast.Name, ast.Attribute))}
            for node in ast.walk(loop):
                if isinstance(node, ast.Call) and isinstance(node.func, ast.Attribute) and node.func.attr in CHANGES:
                    self.assertNotIn(ast.unparse(node.func.value), names, where)
                if isinstance(node, ast.Subscript) and isinstance(node.ctx, ast.Store):
                    self.assertNotIn(ast.unparse(node.value), names, where)

    def test_lists_and_dicts_of_a_file_are_only_read(self):
        kept = {node.targets[0].id for tree in self.trees.values() for node in tree.body
                if isinstance(node, ast.Assign) and isinstance(node.value, (ast.List, ast.Dict))}
        for where, node in self.nodes(ast.Assign):
            if isinstance(node.targets[0], ast.Name) and node.targets[0].id in kept:
                within = [inner for inner in ast.walk(node.value) if inner is not node.value]
                self.assertFalse([inner for inner in within if isinstance(inner, (ast.List, ast.Dict))], where)
        read = [node.value for _, node in self.nodes(ast.Subscript) if isinstance(node.ctx, ast.Load)]
        read += [node.comparators[0] for _, node in self.nodes(ast.Compare)
                 if isinstance(node.ops[0], (ast.In, ast.NotIn))]
        read += [node.func.value for _, node in self.nodes(ast.Call)
                 if isinstance(node.func, ast.Attribute) and node.func.attr == "get"]
        for where, node in self.nodes(ast.Name):
            if node.id in kept and isinstance(node.ctx, ast.Load):
                self.assertIn(node, read, where)

    def test_classes_are_only_called(self):
        classes = {node.name for _, node in self.nodes(ast.ClassDef)}
        called = [node.func for _, node in self.nodes(ast.Call)]
        for where, node in self.nodes(ast.Name):
            if node.id in classes:
                self.assertIn(node, called, where)

    def test_inner_functions_assign_nothing_of_what_is_around_them(self):
        for where, outer in self.nodes(ast.FunctionDef):
            for inner in ast.walk(outer):
                if isinstance(inner, ast.FunctionDef) and inner is not outer:
                    names = [name.id for name in ast.walk(inner) if isinstance(name, ast.Name)
                             and isinstance(name.ctx, ast.Store)]
                    around = [given.arg for given in outer.args.args]
                    around += [name.id for statement in outer.body if statement is not inner
                               for name in ast.walk(statement) if isinstance(name, ast.Name)]
                    self.assertFalse(set(names) & set(around), where)

    def test_methods_and_values(self):
        methods = {node.name for _, found in self.nodes(ast.ClassDef) for node in found.body
                   if isinstance(node, ast.FunctionDef)}
        stored = {(where, node.attr) for where, node in self.nodes(ast.Attribute) if isinstance(node.ctx, ast.Store)}
        for where, attribute in stored:
            self.assertNotIn(attribute, methods, where)
            self.assertNotIn(attribute, TAKEN - OBJECT_VALUES, where)
        for method in methods - {"__init__"}:
            self.assertNotIn(method, TAKEN - METHODS - {"add", "discard"})
        called = [(where, node.func) for where, node in self.nodes(ast.Call) if isinstance(node.func, ast.Attribute)]
        for where, function in called:
            self.assertIn(function.attr, METHODS | methods, where)
        for where, node in self.nodes(ast.Attribute):
            self.assertRegex(node.attr, PLAIN_NAME, where)
            self.assertNotIn(node.attr, UNUSED, where)
            if node.attr in methods:
                self.assertIn(node, [function for _, function in called], where)


if __name__ == "__main__":
    unittest.main()
