"""Tests of those rules of the language subset that a few lines can check."""

import ast
import builtins
import pathlib
import unittest

PACKAGE = pathlib.Path(__file__).resolve().parent.parent / "viewstrike"
FILES = sorted(PACKAGE.rglob("*.py"))
BUILTINS = (
    "len range enumerate zip min max sum abs sorted reversed int str bool list tuple dict set isinstance ord repr any "
    "all divmod type iter next map Exception ValueError TypeError KeyError IndexError LookupError ZeroDivisionError "
    "ArithmeticError OverflowError RuntimeError NotImplementedError StopIteration NotImplemented"
).split()
LIBRARY = ("heapq", "math", "itertools", "collections")
STATEMENTS = (ast.FunctionDef, ast.ClassDef, ast.ImportFrom, ast.Assign)


def tree_of(path):
    return ast.parse(path.read_text("utf-8"))


def nodes_of(path, kinds):
    return [node for node in ast.walk(tree_of(path)) if isinstance(node, kinds)]


def names_bound_by(node):
    """Return the names that a statement at module level binds."""
    if isinstance(node, ast.ImportFrom):
        return [alias.asname or alias.name for alias in node.names]
    if isinstance(node, ast.Assign):
        return [target.id for target in node.targets]
    return [node.name] if hasattr(node, "name") else []


def is_docstring(node):
    return isinstance(node, ast.Expr) and isinstance(node.value, ast.Constant) and isinstance(node.value.value, str)


class LanguageTest(unittest.TestCase):
    def test_the_package_has_only_python_files(self):
        others = [path for path in PACKAGE.rglob("*") if path not in FILES and "__pycache__" not in str(path)]
        self.assertEqual(others, [])
        self.assertIn(PACKAGE / "__init__.py", FILES)

    def test_sizes(self):
        for path in FILES:
            lines = path.read_text("utf-8").split("\n")
            self.assertLessEqual(len(lines), 399, path)
            self.assertLessEqual(max(len(line) for line in lines), 120, path)
            for function in nodes_of(path, ast.FunctionDef):
                self.assertLessEqual(function.end_lineno - function.lineno + 1, 40, (path, function.name))

    def test_characters(self):
        for path in FILES:
            for character in path.read_text("utf-8"):
                self.assertTrue(" " <= character <= "~" or character == "\n", path)

    def test_module_level(self):
        for path in FILES:
            for node in tree_of(path).body:
                self.assertTrue(isinstance(node, STATEMENTS) or is_docstring(node), (path, node.lineno))

    def test_imports(self):
        for path in FILES:
            for node in nodes_of(path, (ast.Import, ast.ImportFrom)):
                self.assertIsInstance(node, ast.ImportFrom, path)
                self.assertEqual(node.level, 0, path)
                self.assertIn(node.module.split(".")[0], ("viewstrike",) + LIBRARY, path)

    def test_no_name_is_imported_from_where_it_is_not_defined(self):
        for path in FILES:
            for node in nodes_of(path, ast.ImportFrom):
                if node.module.startswith("viewstrike."):
                    source = PACKAGE.parent / (node.module.replace(".", "/") + ".py")
                    defined = [told.name for told in tree_of(source).body if hasattr(told, "name")]
                    defined += [told.targets[0].id for told in tree_of(source).body if isinstance(told, ast.Assign)]
                    for alias in node.names:
                        self.assertIn(alias.name, defined, path)

    def test_builtins(self):
        for path in FILES:
            for node in nodes_of(path, ast.Name):
                # An interactive Python, also the one that runs the examples, keeps its last result as _.
                if hasattr(builtins, node.id) and node.id != "_":
                    self.assertIsInstance(node.ctx, ast.Load, (path, node.lineno))
                    self.assertIn(node.id, BUILTINS, (path, node.lineno))

    def test_statements_and_expressions_outside_of_the_subset(self):
        barred = (ast.AsyncFunctionDef, ast.AsyncFor, ast.AsyncWith, ast.Await, ast.Div, ast.MatMult)
        for path in FILES:
            self.assertEqual(nodes_of(path, barred), [], path)
            for node in nodes_of(path, ast.Constant):
                self.assertNotIsInstance(node.value, (float, complex), path)

    def test_no_local_name_is_that_of_a_class_or_an_import(self):
        for path in FILES:
            tops = [node for node in tree_of(path).body if isinstance(node, (ast.ImportFrom, ast.ClassDef))]
            taken = {name for node in tops for name in names_bound_by(node)}
            stored = [node.id for node in nodes_of(path, ast.Name) if not isinstance(node.ctx, ast.Load)]
            self.assertEqual(taken & set(stored + [node.arg for node in nodes_of(path, ast.arg)]), set(), path)

    def test_each_name_is_bound_once_at_module_level(self):
        for path in FILES:
            bound = [name for node in tree_of(path).body for name in names_bound_by(node)]
            self.assertEqual(len(bound), len(set(bound)), path)

    def test_no_two_files_import_from_each_other(self):
        needs = {}
        for path in FILES:
            nodes = nodes_of(path, ast.ImportFrom)
            needs["viewstrike." + path.stem] = {node.module for node in nodes if node.module.startswith("viewstrike")}
        for _ in FILES:
            needs = {name: told | {far for near in told for far in needs[near]} for name, told in needs.items()}
        self.assertEqual([name for name, told in needs.items() if name in told], [])

    def test_sets_are_not_iterated(self):
        for path in FILES:
            loops = [node.iter for node in nodes_of(path, (ast.For, ast.comprehension))]
            self.assertEqual([node for node in loops if isinstance(node, (ast.Set, ast.SetComp))], [], path)

    def test_no_generator_expressions(self):
        # Beside a class with __eq__ and operators, which the house is, most functions take a list instead.
        for path in FILES:
            self.assertEqual(nodes_of(path, ast.GeneratorExp), [], path)

    def test_no_signs_and_methods_that_classes_with_operators_forbid(self):
        for path in FILES:
            self.assertEqual(nodes_of(path, ast.AugAssign), [], path)
            self.assertEqual([node for node in nodes_of(path, ast.Attribute) if node.attr == "sort"], [], path)

    def test_names_that_are_not_used(self):
        barred = "register mro elements open input law version_info with_traceback add_note format format_map".split()
        others = "compile dir eval exec exit globals help id locals os quit sys vars super".split()
        for path in FILES:
            names = [node.id for node in nodes_of(path, ast.Name)] + [node.arg for node in nodes_of(path, ast.arg)]
            attributes = [node.attr for node in nodes_of(path, ast.Attribute)]
            defined = [node.name for node in nodes_of(path, (ast.FunctionDef, ast.ClassDef))]
            self.assertEqual(set(barred) & set(names + attributes + defined), set(), path)
            self.assertEqual(set(others) & set(names + defined), set(), path)

    def test_no_name_is_a_method_and_an_attribute(self):
        methods, attributes = set(), set()
        for path in FILES:
            for node in nodes_of(path, ast.ClassDef):
                methods |= {told.name for told in node.body if isinstance(told, ast.FunctionDef)}
            stored = [node for node in nodes_of(path, ast.Attribute) if isinstance(node.ctx, ast.Store)]
            attributes |= {node.attr for node in stored}
        self.assertEqual(methods & attributes, set())
        values = [set(dir(value)) for value in ("", 0, [], {}, (), b"")] + [{"add", "discard"}]
        for name in (methods | attributes) - {"__init__", "__len__", "__eq__", "__iadd__"}:
            # An attribute may be called index.
            self.assertEqual(name != "index" and any(name in told for told in values), False, name)

    def test_names_that_begin_with_two_underscores(self):
        for path in FILES:
            for node in nodes_of(path, ast.Attribute):
                if node.attr.startswith("__"):
                    self.assertEqual(node.attr, "__init__", (path, node.lineno))

    def test_tables_of_functions_have_functions_of_their_own_file(self):
        for path in FILES:
            tree = tree_of(path)
            defined = [node.name for node in tree.body if isinstance(node, ast.FunctionDef)]
            for node in tree.body:
                if isinstance(node, ast.Assign):
                    names = [part.id for part in ast.walk(node.value) if isinstance(part, ast.Name)]
                    self.assertEqual(set(names) - set(defined), set(), path)


if __name__ == "__main__":
    unittest.main()
