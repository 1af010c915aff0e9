"""The rules of the language that can be told from the files of the package (../shared/LANGUAGE.md)."""

import ast
import builtins
import os
import re
import unittest

FOLDER = os.path.join(os.path.dirname(os.path.dirname(os.path.abspath(__file__))), "laneswap")
BUILTINS = """len range enumerate zip min max sum sorted reversed int str bool list tuple dict set isinstance ord repr
any all divmod iter abs property ValueError TypeError""".split()
BUILTIN_METHODS = """append clear copy count endswith extend find get index insert isalnum isalpha isdigit islower isspace
isupper items join keys ljust lower lstrip partition pop remove replace reverse rfind rjust rpartition rsplit rstrip
setdefault split splitlines startswith strip update upper values zfill bit_length isascii add discard""".split()
SPECIAL = """__init__ __eq__ __len__ __call__ __iter__ __contains__ __getitem__ __add__ __sub__ __mul__ __floordiv__
__and__ __or__ __invert__ __radd__ __rsub__ __rmul__""".split()
NOT_USED = """register mro elements open input law version_info with_traceback add_note type typing enum Enum Flag Generic
Protocol ABC NamedTuple namedtuple map filter hash next format eval exec compile id vars dir super sys""".split()
STATEMENTS = (ast.Return, ast.Assign, ast.For, ast.While, ast.If, ast.Raise, ast.Expr, ast.Pass, ast.Break, ast.Continue,
              ast.FunctionDef, ast.ClassDef, ast.ImportFrom, ast.Try)
EXPRESSIONS = (ast.BoolOp, ast.BinOp, ast.UnaryOp, ast.IfExp, ast.Dict, ast.List, ast.Tuple, ast.Set, ast.ListComp,
               ast.DictComp, ast.SetComp, ast.Compare, ast.Call, ast.Constant, ast.Attribute, ast.Subscript, ast.Name,
               ast.Slice, ast.JoinedStr, ast.FormattedValue)


def read_files():
    found = {}
    for name in sorted(os.listdir(FOLDER)):
        if name != "__pycache__":
            with open(os.path.join(FOLDER, name), encoding="utf-8", newline="") as file:
                found[name] = file.read()
    return found


class LanguageTest(unittest.TestCase):

    def setUp(self):
        self.texts = read_files()
        self.trees = {name: ast.parse(text) for name, text in self.texts.items()}
        self.methods = [node.name for node in self.nodes(ast.ClassDef) for node in node.body
                        if isinstance(node, ast.FunctionDef)]

    def nodes(self, kind):
        return [node for tree in self.trees.values() for node in ast.walk(tree) if isinstance(node, kind)]

    def test_files(self):
        for name, text in self.texts.items():
            self.assertRegex(name, r"^(__init__|[a-z][a-z0-9_]*)\.py$")
            self.assertEqual(re.findall(r"[^ -~\n]", text), [], name)
            lines = text.splitlines()
            self.assertLessEqual(len(lines), 399, name)
            self.assertLessEqual(max(map(len, lines)), 120, name)
        self.assertLessEqual(len(self.texts), 100)

    def test_functions_are_small(self):
        for node in self.nodes(ast.FunctionDef):
            self.assertLessEqual(node.end_lineno - node.lineno + 1, 40, node.name)

    def test_statements_and_expressions(self):
        for node in self.nodes(ast.stmt):
            self.assertIsInstance(node, STATEMENTS, ast.unparse(node))
        for node in self.nodes(ast.expr):
            self.assertIsInstance(node, EXPRESSIONS, ast.unparse(node))
        for node in self.nodes(ast.BinOp):
            self.assertNotIsInstance(node.op, (ast.Div, ast.MatMult, ast.Pow), ast.unparse(node))

    def test_finally_only_restores(self):
        for node in self.nodes(ast.Try):
            self.assertEqual((node.handlers, node.orelse), ([], []))
            for each in node.finalbody + [inner for outer in node.finalbody if isinstance(outer, ast.If) for inner in outer.body]:
                self.assertIsInstance(each, (ast.Assign, ast.If))
                if isinstance(each, ast.Assign):
                    self.assertRegex(ast.unparse(each), r"^self\._[a-z]+ = [a-z]+$")
                else:
                    self.assertRegex(ast.unparse(each.test), r"^[a-z]+ is None$")

    def test_module_level(self):
        for name, tree in self.trees.items():
            bound = []
            for at, node in enumerate(tree.body):
                if isinstance(node, ast.Expr):
                    self.assertTrue(at == 0 and isinstance(node.value.value, str), name)
                elif isinstance(node, ast.Assign):
                    self.assertIsInstance(node.targets[0], ast.Name)
                    ast.literal_eval(node.value)
                    bound.append(node.targets[0].id)
                elif isinstance(node, ast.ImportFrom):
                    bound += [alias.asname or alias.name for alias in node.names]
                    self.assertTrue(all([isinstance(each, (ast.Expr, ast.ImportFrom)) for each in tree.body[:at]]), name)
                else:
                    self.assertIsInstance(node, (ast.FunctionDef, ast.ClassDef))
                    bound.append(node.name)
            self.assertEqual(len(bound), len(set(bound)), name)

    def test_imports(self):
        needs = {}
        for name, tree in self.trees.items():
            needs[name] = []
            used = [node.id for node in ast.walk(tree) if isinstance(node, ast.Name)]
            for node in ast.walk(tree):
                if isinstance(node, ast.ImportFrom) and node.module == "math":
                    self.assertEqual([alias.name for alias in node.names], ["lcm"], name)
                elif isinstance(node, ast.ImportFrom):
                    self.assertRegex(f"{node.level} {node.module}", r"^0 laneswap\.[a-z]+$")
                    source = node.module.split(".")[1] + ".py"
                    needs[name].append(source)
                    for alias in node.names:
                        self.assertIn(alias.name, self.defined(source), name)
                        self.assertIsNone(alias.asname)
                        self.assertIn(alias.name, used, name)
        self.check_no_circle(needs)

    def defined(self, name):
        found = []
        for node in self.trees[name].body:
            if isinstance(node, (ast.FunctionDef, ast.ClassDef)):
                found.append(node.name)
            elif isinstance(node, ast.Assign):
                found.append(node.targets[0].id)
        return found

    def check_no_circle(self, needs):
        left = dict(needs)
        while left:
            free = [name for name, sources in left.items() if not [each for each in sources if each in left]]
            self.assertNotEqual(free, [], left)
            left = {name: sources for name, sources in left.items() if name not in free}

    def test_names(self):
        taken = set(dir(builtins))
        for file, tree in self.trees.items():
            reserved = [node.name for node in tree.body if isinstance(node, ast.ClassDef)]
            for node in ast.walk(tree):
                if isinstance(node, ast.ImportFrom):
                    reserved += [alias.name for alias in node.names]
            for name in self.bound_names(tree):
                self.assertNotIn(name, taken, file)
                self.assertNotIn(name, reserved, file)
                self.assertRegex(name, r"^(_|_?[A-Za-z][A-Za-z0-9_]*)$")
                self.assertNotIn(name, NOT_USED)

    def bound_names(self, tree):
        """Names of parameters, variables, functions and keywords; methods may have names of builtins."""
        found = [node.arg for node in ast.walk(tree) if isinstance(node, (ast.arg, ast.keyword))]
        found += [node.id for node in ast.walk(tree) if isinstance(node, ast.Name) and isinstance(node.ctx, ast.Store)]
        return found + [node.name for node in tree.body if isinstance(node, ast.FunctionDef)]

    def test_builtins(self):
        for node in self.nodes(ast.Name):
            if node.id in dir(builtins):
                self.assertIn(node.id, BUILTINS)

    def test_functions_and_classes(self):
        for node in self.nodes((ast.FunctionDef, ast.ClassDef)):
            self.assertIn([ast.unparse(each) for each in node.decorator_list], [[], ["property"]], node.name)
            self.assertIsNotNone(ast.get_docstring(node) or re.fullmatch("__.*__", node.name), node.name)
        for node in self.nodes(ast.FunctionDef):
            self.assertIsNone(node.returns, node.name)
            if node.name.startswith("__"):
                self.assertIn(node.name, SPECIAL)
        for node in self.nodes(ast.arg):
            self.assertIsNone(node.annotation, node.arg)
        for node in self.nodes(ast.ClassDef):
            names = [each.name for each in node.body if isinstance(each, ast.FunctionDef)]
            self.assertEqual(len(names), len(set(names)), node.name)
            if "__getitem__" in names:
                self.assertIn("__iter__", names)

    def test_methods_that_are_called(self):
        for node in self.nodes(ast.Call):
            if isinstance(node.func, ast.Attribute):
                name = node.func.attr
                attributes = [each.attr for each in self.nodes(ast.Attribute) if isinstance(each.ctx, ast.Store)]
                self.assertIn(name, BUILTIN_METHODS + self.methods + attributes)
            self.assertEqual([each for each in node.args if isinstance(each, ast.Starred)], [])

    def test_attributes_are_assigned_on_names(self):
        for node in self.nodes(ast.Attribute):
            if isinstance(node.ctx, ast.Store):
                self.assertEqual(node.value.id, "self")
                self.assertNotIn(node.attr, "items keys values pop update append clear sort args format hex".split())

    def test_constants(self):
        for node in self.nodes(ast.Constant):
            self.assertIsInstance(node.value, (int, str, bool, type(None)))
            if isinstance(node.value, str):
                self.assertNotIn(chr(37), node.value)
                self.assertEqual([word for word in NOT_USED if node.value == word], [])

    def test_is_only_with_none_true_and_false(self):
        for node in self.nodes(ast.Compare):
            for sign, right in zip(node.ops, node.comparators):
                if isinstance(sign, (ast.Is, ast.IsNot)):
                    self.assertIn(right.value, (None, True, False))

    def test_sets_stand_where_they_may(self):
        allowed = []
        for node in self.nodes(ast.Call):
            if isinstance(node.func, ast.Name) and node.func.id in ("sorted", "len") and not node.keywords:
                allowed += node.args
        for node in self.nodes((ast.SetComp, ast.Set)):
            self.assertIn(node, allowed, ast.unparse(node))

    def test_equality_returns_at_once(self):
        for node in self.nodes(ast.FunctionDef):
            if node.name == "__eq__":
                self.assertEqual([each for each in ast.walk(node) if isinstance(each, (ast.Assign, ast.For))], [])


if __name__ == "__main__":
    unittest.main()
