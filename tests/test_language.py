"""Rules of LANGUAGE.md that can be read off the files: L1 to L3, L7, L8, L10, L14 to L18, L20 and L28."""

import ast
import builtins
import os
import unittest

PACKAGE = os.path.join(os.path.dirname(os.path.dirname(os.path.abspath(__file__))), "trulymade")
LIBRARY = ("__future__", "collections", "heapq", "itertools", "math")
LISTED = """len range enumerate zip min max sum abs sorted reversed int str bool bytes list tuple
dict set frozenset isinstance ord repr any all divmod pow getattr hasattr setattr iter next map type
super ValueError TypeError KeyError IndexError LookupError""".split()

BARRED = """register mro elements open input law version_info with_traceback add_note attrgetter breakpoint
builtins compile copyright credits delattr dir eval exec exit gc globals help id importlib license locals
methodcaller os quit vars sys typing enum dataclass overload format format_map""".split()


def package_files():
    return sorted(name for name in os.listdir(PACKAGE) if name != "__pycache__")


def text_of(name):
    with open(os.path.join(PACKAGE, name), encoding="utf-8") as file:
        return file.read()


def parts(tree, *kinds):
    return [part for part in ast.walk(tree) if isinstance(part, kinds)]


def names_of(name):
    """What a file defines itself at module level."""
    body = ast.parse(text_of(name)).body
    defined = [part.name for part in body if isinstance(part, (ast.FunctionDef, ast.ClassDef))]
    return defined + [part.targets[0].id for part in body if isinstance(part, ast.Assign)]


class TestLanguage(unittest.TestCase):
    def test_only_python_files(self):
        self.assertIn("__init__.py", package_files())
        for name in package_files():
            self.assertTrue(name.endswith(".py") and name == name.lower(), name)

    def test_lengths_and_characters(self):
        for name in package_files():
            text = text_of(name)
            self.assertLessEqual(set(text), set(map(chr, range(32, 127))) | {"\n"}, name)
            self.assertLessEqual(len(text.splitlines()), 399, name)
            self.assertLessEqual(max(map(len, text.splitlines())), 120, name)
            for part in parts(ast.parse(text), ast.FunctionDef):
                self.assertLessEqual(part.end_lineno - part.lineno + 1, 40, part.name)

    def test_what_stands_at_module_level(self):
        for name in package_files():
            tree = ast.parse(text_of(name))
            self.assertIsNotNone(ast.get_docstring(tree), name)
            for part in tree.body[1:]:
                self.assertIsInstance(part, (ast.ImportFrom, ast.FunctionDef, ast.ClassDef,
                                             ast.Assign), name)

    def test_imports_name_the_defining_file(self):
        for name in package_files():
            tree = ast.parse(text_of(name))
            self.assertEqual(parts(tree, ast.Import), [], name)
            for part in parts(tree, ast.ImportFrom):
                self.assertIn(part, tree.body, name)
                self.assertEqual(part.level, 0, name)
                if part.module in LIBRARY:
                    continue
                folder, _, module = part.module.partition(".")
                self.assertEqual(folder, "trulymade", name)
                for alias in part.names:
                    self.assertIn(alias.name, names_of(module + ".py"), name)

    def test_only_listed_builtins(self):
        for name in package_files():
            own = names_of(name)
            for part in parts(ast.parse(text_of(name)), ast.Call):
                if isinstance(part.func, ast.Name) and hasattr(builtins, part.func.id):
                    self.assertIn(part.func.id, LISTED, name)
                    self.assertNotIn(part.func.id, own, name)

    def test_names_of_parameters_and_variables(self):
        for name in package_files():
            tree = ast.parse(text_of(name))
            taken = [alias.name for part in parts(tree, ast.ImportFrom) for alias in part.names]
            taken += [part.name for part in tree.body if isinstance(part, ast.ClassDef)] + dir(builtins)
            for part in parts(tree, ast.FunctionDef):
                for local in locals_of(part):
                    self.assertNotIn(local, taken, (name, part.name))

    def test_words_that_are_not_used(self):
        for name in package_files():
            tree = ast.parse(text_of(name))
            for part in parts(tree, ast.Name, ast.Attribute, ast.arg, ast.FunctionDef, ast.ClassDef):
                for field in ("id", "attr", "arg", "name"):
                    self.assertNotIn(getattr(part, field, None), BARRED, name)

    def test_what_the_subset_leaves_out(self):
        barred = (ast.GeneratorExp, ast.Global, ast.AsyncFunctionDef, ast.Await, ast.Div, ast.Pow)
        for name in package_files():
            tree = ast.parse(text_of(name))
            self.assertEqual(parts(tree, *barred), [], name)
            for part in parts(tree, ast.Compare):
                if any(isinstance(sign, (ast.Is, ast.IsNot)) for sign in part.ops):
                    self.assertIsInstance(part.comparators[0], ast.Constant, name)
            for part in parts(tree, ast.Constant):
                self.assertFalse(isinstance(part.value, (float, bytes)), name)

    def test_no_name_is_a_method_and_an_attribute(self):
        methods = []
        attributes = []
        for name in package_files():
            tree = ast.parse(text_of(name))
            attributes += [part.attr for part in parts(tree, ast.Attribute) if isinstance(part.ctx, ast.Store)]
            for part in parts(tree, ast.ClassDef):
                own = [inner.name for inner in part.body if isinstance(inner, ast.FunctionDef)]
                self.assertEqual(len(own), len(set(own)), name)
                methods += own
        # In two classes, too: L18 lets it there for some names, but none is needed.
        self.assertEqual(set(methods) & set(attributes), set())

    def test_what_tells_equal_calls_nothing_of_its_own(self):
        for name in package_files():
            for part in parts(ast.parse(text_of(name)), ast.FunctionDef):
                if part.name == "__eq__":
                    self.assertEqual({ast.unparse(call.func) for call in parts(part, ast.Call)}, {"isinstance"}, name)

    def test_no_two_files_import_from_each_other(self):
        imports = {}
        for name in package_files():
            found = parts(ast.parse(text_of(name)), ast.ImportFrom)
            imports[name] = {part.module.partition(".")[2] + ".py" for part in found if part.module not in LIBRARY}
        while imports:
            free = [name for name in imports if not imports[name] & set(imports)]
            self.assertNotEqual(free, [], imports)
            for name in free:
                del imports[name]


def locals_of(function):
    """The parameters and variables of a function, those of its comprehensions too."""
    found = [part.arg for part in parts(function, ast.arg)]
    return found + [part.id for part in parts(function, ast.Name) if isinstance(part.ctx, ast.Store)]


if __name__ == "__main__":
    unittest.main()
