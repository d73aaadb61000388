"""The package keeps to the language of the project, as far as a short test can see it."""

import ast
import builtins
import pathlib
import unittest
import warnings

PACKAGE = pathlib.Path(__file__).resolve().parent.parent / "calltowers"
LIBRARY = {"heapq", "math", "itertools", "collections"}
BUILTINS = {
    "len", "range", "enumerate", "zip", "min", "max", "sum", "abs", "sorted", "reversed", "int", "str", "bool",
    "list", "tuple", "dict", "set", "isinstance", "ord", "repr", "any", "all", "divmod", "ValueError", "KeyError",
    "iter", "next", "map", "super",
}
METHODS = set("""append clear copy count endswith extend find get index insert isalnum isalpha isdigit islower isspace
    isupper items join keys ljust lower lstrip partition pop remove replace reverse rfind rjust rpartition rsplit rstrip
    setdefault split splitlines startswith strip update upper values zfill bit_length removeprefix removesuffix sort""".split())
BARRED = {"typing", "enum", "Enum", "Flag", "register", "elements", "law", "mro", "os", "sys", "gc"}
TAKEN = BARRED | set(dir(builtins))


def files():
    return sorted(PACKAGE.rglob("*.py"))


def trees():
    return [(path.name, ast.parse(path.read_text())) for path in files()]


def nodes(kind):
    return [(name, node) for name, tree in trees() for node in ast.walk(tree) if isinstance(node, kind)]


class LanguageTest(unittest.TestCase):
    def test_sizes_and_characters(self):
        self.assertTrue((PACKAGE / "__init__.py").exists())
        for path in files():
            lines = path.read_text().split("\n")
            self.assertLessEqual(len(lines), 399, path.name)
            for line in lines:
                self.assertLessEqual(len(line), 120, line)
                self.assertTrue(all(" " <= sign <= "~" for sign in line), line)
                self.assertEqual(line, line.rstrip())

    def test_python_gives_no_warning(self):
        with warnings.catch_warnings():
            warnings.simplefilter("error")
            for path in files():
                compile(path.read_text(), path.name, "exec")

    def test_functions_are_short(self):
        for name, node in nodes(ast.FunctionDef):
            self.assertLessEqual(node.end_lineno - node.lineno + 1, 40, (name, node.name))
            self.assertEqual([deco for deco in node.decorator_list], [], (name, node.name))

    def test_imports(self):
        self.assertEqual(nodes(ast.Import), [])
        for name, node in nodes(ast.ImportFrom):
            self.assertEqual(node.level, 0)
            if node.module in LIBRARY:
                continue
            path = PACKAGE.parent / (node.module.replace(".", "/") + ".py")
            own = {part.name for part in ast.parse(path.read_text()).body
                   if isinstance(part, (ast.FunctionDef, ast.ClassDef))}
            own |= {part.targets[0].id for part in ast.parse(path.read_text()).body if isinstance(part, ast.Assign)}
            for part in node.names:
                self.assertIn(part.name, own, name)
                self.assertIsNone(part.asname)

    def test_only_these_statements_at_module_level(self):
        for name, tree in trees():
            for node in tree.body:
                self.assertIsInstance(node, (ast.Expr, ast.ImportFrom, ast.FunctionDef, ast.ClassDef, ast.Assign), name)
                if isinstance(node, ast.Expr):
                    self.assertIsInstance(node.value, ast.Constant)

    def test_no_floats_strings_with_percent_or_divisions(self):
        for name, node in nodes(ast.Constant):
            self.assertNotIsInstance(node.value, float)
            if isinstance(node.value, str):
                self.assertNotIn("%", node.value, name)
        self.assertEqual(nodes(ast.Div), [])
        for kind in (ast.Global, ast.AsyncFunctionDef, ast.Await, ast.GeneratorExp, ast.Yield):
            self.assertEqual(nodes(kind), [])

    def test_names(self):
        for name, node in nodes(ast.Name):
            self.assertNotIn(node.id, TAKEN - BUILTINS, name)
            if isinstance(node.ctx, ast.Store):
                self.assertNotIn(node.id, BUILTINS, name)
        for name, node in nodes(ast.arg):
            self.assertNotIn(node.arg, TAKEN, name)
        for name, node in nodes(ast.FunctionDef):
            self.assertNotIn(node.name, TAKEN, name)
        for name, node in nodes(ast.Attribute):
            self.assertNotIn(node.attr, BARRED | {"open", "input"}, name)

    def test_no_local_name_is_that_of_an_import_or_a_class(self):
        for name, tree in trees():
            taken = {part.name for node in tree.body if isinstance(node, ast.ImportFrom) for part in node.names}
            taken |= {node.name for node in tree.body if isinstance(node, ast.ClassDef)}
            bound = {node.id for node in ast.walk(tree) if isinstance(node, ast.Name) and isinstance(node.ctx, ast.Store)}
            bound |= {node.arg for node in ast.walk(tree) if isinstance(node, ast.arg)}
            self.assertEqual(taken & bound, set(), name)

    def test_no_name_is_a_method_and_an_attribute(self):
        for name, node in nodes(ast.ClassDef):
            methods = {part.name for part in node.body if isinstance(part, ast.FunctionDef)}
            stored = {part.attr for part in ast.walk(node)
                      if isinstance(part, ast.Attribute) and isinstance(part.ctx, ast.Store)}
            self.assertEqual(methods & stored, set(), (name, node.name))

    def test_called_names_are_known(self):
        for name, tree in trees():
            defined = {node.name for node in ast.walk(tree) if isinstance(node, (ast.FunctionDef, ast.ClassDef))}
            defined |= {part.name for node in tree.body if isinstance(node, ast.ImportFrom) for part in node.names}
            for node in ast.walk(tree):
                if isinstance(node, ast.Call) and isinstance(node.func, ast.Name):
                    self.assertIn(node.func.id, defined | BUILTINS | {"action"}, name)

    def test_methods_are_known(self):
        own = {part.name for _, node in nodes(ast.ClassDef) for part in node.body if isinstance(part, ast.FunctionDef)}
        for name, node in nodes(ast.Call):
            if isinstance(node.func, ast.Attribute):
                self.assertIn(node.func.attr, own | METHODS, name)

    def test_no_import_leads_in_a_circle(self):
        leads = {"calltowers." + name[:-3]: [node.module for node in tree.body if isinstance(node, ast.ImportFrom)]
                 for name, tree in trees()}

        def reached(module, way):
            self.assertNotIn(module, way)
            for other in leads.get(module, []):
                reached(other, way + [module])
        for module in leads:
            reached(module, [])


if __name__ == "__main__":
    unittest.main()
