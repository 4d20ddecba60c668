"""The package keeps to those rules of its language that can be seen row by row."""

import ast
import builtins
import pathlib
import re
import unittest

PACKAGE = pathlib.Path(__file__).resolve().parent.parent / "onewithin"
BUILTINS = set("""len range enumerate zip min max sum abs sorted reversed int str bool bytes list tuple dict set frozenset
isinstance ord repr any all divmod Exception ValueError TypeError KeyError IndexError LookupError ZeroDivisionError
ArithmeticError OverflowError RuntimeError NotImplementedError AttributeError StopIteration""".split())
METHODS = set("""append clear copy count endswith extend find get index insert isalnum isalpha isdigit islower isspace
isupper items join keys ljust lower lstrip partition pop remove replace reverse rfind rjust rpartition rsplit rstrip
setdefault split splitlines startswith strip update upper values zfill bit_length sort __init__""".split())
WORDS = re.compile(r"\b(type|typing|enum|Enum|Flag|Generic|Protocol|ABC|namedtuple|NamedTuple)\b|dataclass|overload")
BARRED = (ast.AsyncFunctionDef, ast.Global, ast.NamedExpr, ast.Await, ast.Div, ast.Import)


class Language(unittest.TestCase):
    def setUp(self):
        self.texts = {path.name: path.read_text() for path in sorted(PACKAGE.glob("*.py"))}
        self.trees = {name: ast.parse(text) for name, text in self.texts.items()}

    def nodes(self, kind):
        for name, tree in self.trees.items():
            for node in ast.walk(tree):
                if isinstance(node, kind):
                    yield name, node

    def test_the_folder_has_plain_files_alone(self):
        for path in PACKAGE.iterdir():
            self.assertTrue(path.name == "__pycache__" or re.fullmatch(r"[a-z_]+\.py", path.name), path.name)
        self.assertIn("__init__.py", self.texts)

    def test_sizes_and_signs(self):
        for name, text in self.texts.items():
            rows = text.split("\n")
            self.assertLessEqual(len(rows), 400, name)
            self.assertLessEqual(max(len(row) for row in rows), 120, name)
            self.assertTrue(all(sign == "\n" or " " <= sign <= "~" for sign in text), name)
            self.assertIsNone(WORDS.search(text), name)
        for name, node in self.nodes(ast.FunctionDef):
            self.assertLessEqual(node.end_lineno - node.lineno + 1, 40, node.name)
            self.assertEqual(node.decorator_list, [], node.name)

    def test_imports(self):
        ahead = {}
        for name, node in self.nodes(ast.ImportFrom):
            self.assertTrue(node.level == 0 and node.module.startswith("onewithin."), name)
            source = node.module.split(".")[1] + ".py"
            ahead.setdefault(name, []).append(source)
            defined = {part.name for part in self.trees[source].body if isinstance(part, (ast.FunctionDef, ast.ClassDef))}
            defined |= {part.targets[0].id for part in self.trees[source].body if isinstance(part, ast.Assign)}
            self.assertLessEqual({part.name for part in node.names}, defined, name)
        while ahead:
            free = [name for name in ahead if not [source for source in ahead[name] if source in ahead]]
            self.assertTrue(free, "files import from each other")
            for name in free:
                del ahead[name]

    def test_imports_are_used(self):
        for name, node in self.nodes(ast.ImportFrom):
            used = {part.id for part in ast.walk(self.trees[name]) if isinstance(part, ast.Name)}
            self.assertLessEqual({part.name for part in node.names}, used, name)

    def test_barred_statements_and_values(self):
        for name, node in self.nodes(BARRED):
            self.fail(f"{name} {node.lineno}")
        for name, node in self.nodes(ast.Constant):
            self.assertNotIsInstance(node.value, (float, complex), name)

    def test_names(self):
        for name, node in self.nodes(ast.Name):
            self.assertFalse(node.id.startswith("_"), name)
            if hasattr(builtins, node.id):
                self.assertIn(node.id, BUILTINS, name)
                self.assertIsInstance(node.ctx, ast.Load, name)
        for name, node in self.nodes(ast.arg):
            self.assertFalse(hasattr(builtins, node.arg), name)

    def test_locals_are_no_imports(self):
        for name, tree in self.trees.items():
            taken = {part.name for node in ast.walk(tree) if isinstance(node, ast.ImportFrom) for part in node.names}
            taken |= {node.name for node in tree.body if isinstance(node, (ast.FunctionDef, ast.ClassDef))}
            for node in ast.walk(tree):
                if isinstance(node, ast.Name) and isinstance(node.ctx, ast.Store) or isinstance(node, ast.arg):
                    self.assertNotIn(getattr(node, "id", getattr(node, "arg", None)), taken, name)

    def test_methods(self):
        own = {part.name for name, node in self.nodes(ast.ClassDef) for part in node.body
               if isinstance(part, ast.FunctionDef)}
        for name, node in self.nodes(ast.Call):
            if isinstance(node.func, ast.Attribute):
                self.assertIn(node.func.attr, METHODS | own, name)
        kept = {node.attr for name, node in self.nodes(ast.Attribute) if isinstance(node.ctx, ast.Store)}
        self.assertFalse(own & kept)

    def test_methods_of_the_interface(self):
        desk = [node for name, node in self.nodes(ast.ClassDef) if node.name == "Desk"][0]
        self.assertIn("say", [part.name for part in desk.body if isinstance(part, ast.FunctionDef)])

    def test_lambdas_on_one_line(self):
        seen = set()
        for name, node in self.nodes(ast.Lambda):
            place = (name, node.lineno, tuple(part.arg for part in node.args.args))
            self.assertNotIn(place, seen)
            seen.add(place)

    def test_module_level(self):
        for name, tree in self.trees.items():
            bound = []
            for node in tree.body:
                docstring = isinstance(node, ast.Expr) and isinstance(node.value, ast.Constant)
                self.assertTrue(docstring or isinstance(
                    node, (ast.ImportFrom, ast.FunctionDef, ast.ClassDef, ast.Assign)), name)
                if isinstance(node, ast.ImportFrom):
                    bound += [part.name for part in node.names]
                elif isinstance(node, ast.Assign):
                    bound.append(node.targets[0].id)
                elif not docstring:
                    bound.append(node.name)
            self.assertEqual(len(bound), len(set(bound)), name)

    def test_no_generators_and_no_stored_sets(self):
        # What the package has no need of, so that the rules over them needn't be looked at.
        for name, node in self.nodes((ast.GeneratorExp, ast.Yield, ast.YieldFrom, ast.SetComp, ast.Try, ast.With)):
            self.fail(f"{name} {node.lineno}")

    def test_is(self):
        for name, node in self.nodes(ast.Compare):
            for sign, right in zip(node.ops, node.comparators):
                if isinstance(sign, (ast.Is, ast.IsNot)):
                    self.assertTrue(isinstance(right, ast.Constant) and right.value in (None, True, False), name)


if __name__ == "__main__":
    unittest.main()
