"""What can be told mechanically of the form of the code: a part of the rules of LANGUAGE.md."""

import ast
import pathlib
import unittest

PACKAGE = pathlib.Path(__file__).resolve().parent.parent / "oneround"
FILES = [path for path in sorted(PACKAGE.rglob("*")) if "__pycache__" not in path.parts]

BUILTINS = (
    "len range enumerate zip min max sum abs sorted reversed int str bool bytes list tuple dict set isinstance "
    "ord repr any all divmod map super ValueError LookupError KeyError NotImplemented"
).split()

BARRED_NAMES = (
    "mro elements open input law version_info with_traceback add_note register attrgetter builtins gc importlib "
    "methodcaller os sys"
).split()


def nodes(path, *kinds):
    return [node for node in ast.walk(ast.parse(path.read_text())) if isinstance(node, kinds)]


class FormTest(unittest.TestCase):
    def each(self):
        for path in FILES:
            with self.subTest(path.name):
                yield path

    def test_the_folder_holds_files_of_code_alone(self):
        self.assertIn("__init__.py", [path.name for path in FILES])
        for path in self.each():
            self.assertRegex(path.name, r"^[a-z0-9_]+\.py$")

    def test_signs_and_sizes(self):
        for path in self.each():
            text = path.read_text(encoding="ascii")
            self.assertTrue(all(sign == "\n" or " " <= sign <= "~" for sign in text))
            lines = text.split("\n")
            self.assertLess(len(lines), 400)
            self.assertLessEqual(max(len(line) for line in lines), 120)

    def test_functions_are_small_and_plain(self):
        for path in self.each():
            for function in nodes(path, ast.FunctionDef):
                self.assertLessEqual(function.end_lineno - function.lineno + 1, 40, function.name)
                self.assertEqual(function.decorator_list, [])

    def test_imports(self):
        for path in self.each():
            self.assertEqual(nodes(path, ast.Import), [])
            for row in nodes(path, ast.ImportFrom):
                self.assertEqual(row.level, 0)
                self.assertTrue(row.module.startswith("oneround.") or row.module in ("math", "heapq", "collections"))

    def test_no_two_files_import_from_each_other(self):
        ahead = {}
        for path in FILES:
            ahead[f"oneround.{path.stem}"] = {row.module for row in nodes(path, ast.ImportFrom)}
        while ahead:
            free = [name for name, needs in ahead.items() if not needs & set(ahead)]
            self.assertNotEqual(free, [], ahead)
            for name in free:
                del ahead[name]

    def test_what_is_imported_is_defined_in_that_very_file_and_used(self):
        for path in self.each():
            used = {node.id for node in nodes(path, ast.Name)}
            for row in nodes(path, ast.ImportFrom):
                if row.module.startswith("oneround."):
                    source = PACKAGE / (row.module.split(".")[1] + ".py")
                    rows = ast.parse(source.read_text()).body
                    defined = {node.name for node in rows if isinstance(node, (ast.FunctionDef, ast.ClassDef))}
                    defined |= {node.targets[0].id for node in rows if isinstance(node, ast.Assign)}
                    told = {alias.name for alias in row.names}
                    self.assertEqual(told - defined, set())
                    self.assertEqual(told - used, set())

    def test_no_variable_has_the_name_of_a_class_an_import_or_of_what_is_barred(self):
        for path in self.each():
            taken = {alias.name for row in nodes(path, ast.ImportFrom) for alias in row.names} | set(BARRED_NAMES)
            taken |= {node.name for node in nodes(path, ast.ClassDef)}
            bound = {node.id for node in nodes(path, ast.Name) if isinstance(node.ctx, ast.Store)}
            bound |= {node.arg for node in nodes(path, ast.arg)} | {node.name for node in nodes(path, ast.FunctionDef)}
            self.assertEqual(sorted(bound & taken), [])

    def test_no_numbers_with_a_point(self):
        for path in self.each():
            self.assertEqual(nodes(path, ast.Div), [])
            for constant in nodes(path, ast.Constant):
                self.assertNotIsInstance(constant.value, (float, complex))
                if isinstance(constant.value, str):
                    self.assertNotIn("%", constant.value)

    def test_what_a_class_that_compares_asks_of_the_others(self):
        # a class has __eq__ and __len__: so nothing is gone through by a generator, and no error of such is caught
        for path in self.each():
            self.assertEqual(nodes(path, ast.GeneratorExp, ast.Try, ast.Set, ast.SetComp, ast.Yield), [])
            methods = [node.attr for node in nodes(path, ast.Attribute)]
            self.assertNotIn("sort", methods)

    def test_methods(self):
        plain = ("__init__", "__eq__", "__len__", "__str__", "__repr__")
        for path in self.each():
            for class_ in nodes(path, ast.ClassDef):
                told = [row.name for row in class_.body if isinstance(row, ast.FunctionDef)]
                self.assertEqual(len(told), len(set(told)))
                self.assertEqual([name for name in told if name.startswith("__") and name not in plain], [])
                attributes = {node.attr for node in ast.walk(class_) if isinstance(node, ast.Attribute)
                              and isinstance(node.ctx, ast.Store)}
                self.assertEqual(sorted(attributes & set(told)), [])

    def test_module_level(self):
        plain = (ast.Expr, ast.ImportFrom, ast.FunctionDef, ast.ClassDef, ast.Assign)
        for path in self.each():
            for row in ast.parse(path.read_text()).body:
                self.assertIsInstance(row, plain)
                if isinstance(row, ast.Expr):
                    self.assertIsInstance(row.value.value, str)

    def test_no_word_of_python_s_own_but_the_allowed_ones(self):
        python = set(dir(__builtins__) if not isinstance(__builtins__, dict) else __builtins__)
        for path in self.each():
            told = {node.id for node in nodes(path, ast.Name)} & python
            self.assertEqual(sorted(told - set(BUILTINS)), [])
            bound = {node.id for node in nodes(path, ast.Name) if isinstance(node.ctx, ast.Store)}
            bound |= {node.arg for node in nodes(path, ast.arg)}
            self.assertEqual(sorted(bound & python), [])


if __name__ == "__main__":
    unittest.main()
