"""Some of the rules for the files of the package, as far as they can be read off the code."""

import ast
import builtins
import os
import unittest

FOLDER = os.path.join(os.path.dirname(os.path.dirname(os.path.abspath(__file__))), "namehouse")
LIBRARY = ("heapq", "math", "itertools", "collections")
BUILTINS = """len range enumerate zip min max sum abs sorted reversed int str bool bytes list tuple dict set frozenset
    isinstance ord repr any all divmod pow getattr hasattr setattr iter next map super property staticmethod classmethod
    Exception ValueError TypeError KeyError IndexError LookupError ZeroDivisionError ArithmeticError OverflowError
    RuntimeError NotImplementedError AttributeError StopIteration NotImplemented print""".split()
METHODS = """append clear copy count endswith extend find get index insert isalnum isalpha isdigit islower isspace isupper
    items join keys ljust lower lstrip partition pop remove replace reverse rfind rjust rpartition rsplit rstrip setdefault
    split splitlines startswith strip update upper values zfill bit_length title capitalize swapcase casefold center
    expandtabs removeprefix removesuffix rindex isascii isdecimal isnumeric istitle isidentifier isprintable add discard
    sort format encode decode __init__""".split()
BARRED_WORDS = ["dataclass", "overload", "contextmanager", r"\btyping\b", r"\benum\b", r"\bnamedtuple\b", r"\babstractmethod\b",
                r"\btype\b"]
BARRED_NAMES = ["register", "mro", "elements", "open", "input", "law", "version_info", "with_traceback", "add_note",
                "_record", "_cold", "_outside"]
BARRED_NODES = (ast.Global, ast.AsyncFunctionDef, ast.AsyncFor, ast.AsyncWith, ast.Await, ast.Div)


def package_files():
    """The names of the package's files and their texts."""
    found = {}
    for name in sorted(os.listdir(FOLDER)):
        if name != "__pycache__":
            with open(os.path.join(FOLDER, name), encoding="utf-8") as held:
                found[name] = held.read()
    return found


class LanguageTest(unittest.TestCase):
    def setUp(self):
        self.texts = package_files()
        self.trees = {name: ast.parse(text) for name, text in self.texts.items()}

    def nodes(self):
        for name, tree in self.trees.items():
            for node in ast.walk(tree):
                yield f"{name}:{getattr(node, 'lineno', 0)}", node

    def test_files_and_characters(self):
        for name, text in self.texts.items():
            self.assertRegex(name, r"^[a-z0-9_]+\.py$")
            self.assertTrue(all(sign == "\n" or " " <= sign <= "~" for sign in text), name)
            self.assertLessEqual(len(text.splitlines()), 399, name)
            self.assertLessEqual(max(len(line) for line in text.splitlines()), 120, name)
            for word in BARRED_WORDS:
                self.assertNotRegex(text, word, name)

    def test_sizes_of_functions_and_no_decorators_of_functions(self):
        for where, node in self.nodes():
            if isinstance(node, ast.FunctionDef):
                self.assertLessEqual(node.end_lineno - node.lineno + 1, 40, where)
            if isinstance(node, ast.ClassDef):
                self.assertEqual(node.decorator_list, [], where)

    def test_module_level(self):
        for name, tree in self.trees.items():
            self.assertTrue(ast.get_docstring(tree), name)
            for node in tree.body[1:]:
                self.assertIsInstance(node, (ast.ImportFrom, ast.Assign, ast.FunctionDef, ast.ClassDef), name)

    def test_imports(self):
        for name, tree in self.trees.items():
            for node in ast.walk(tree):
                self.assertNotIsInstance(node, ast.Import, name)
                if isinstance(node, ast.ImportFrom):
                    self.assertIn(node, tree.body, name)
                    self.assertEqual(node.level, 0, name)
                    self.check_import(name, node)

    def check_import(self, name, node):
        """The import names what the very file defines, and that file doesn't import this one."""
        if node.module in LIBRARY:
            return
        self.assertTrue(node.module.startswith("namehouse."), name)
        there = node.module[len("namehouse."):] + ".py"
        self.assertNotIn(name, self.reached(there), name)
        defined = []
        for part in self.trees[there].body:
            if isinstance(part, (ast.FunctionDef, ast.ClassDef)):
                defined.append(part.name)
            elif isinstance(part, ast.Assign):
                defined.append(part.targets[0].id)
        for alias in node.names:
            self.assertIn(alias.name, defined, name)

    def reached(self, name):
        """The files that a file imports, itself and through others."""
        found = [name]
        for file in found:
            for node in self.trees[file].body:
                if isinstance(node, ast.ImportFrom) and node.module.startswith("namehouse."):
                    there = node.module[len("namehouse."):] + ".py"
                    if there not in found:
                        found.append(there)
        return found

    def test_names(self):
        own = {node.name for _, node in self.nodes() if isinstance(node, (ast.FunctionDef, ast.ClassDef))}
        for where, node in self.nodes():
            self.assertNotIsInstance(node, BARRED_NODES, where)
            if isinstance(node, ast.Name):
                self.assertNotIn(node.id, BARRED_NAMES, where)
                if isinstance(node.ctx, ast.Store):
                    self.assertFalse(hasattr(builtins, node.id), where)
                elif hasattr(builtins, node.id):
                    self.assertIn(node.id, BUILTINS, where)
            if isinstance(node, ast.arg):
                self.assertFalse(hasattr(builtins, node.arg), where)
            if isinstance(node, ast.Call) and isinstance(node.func, ast.Attribute):
                self.assertIn(node.func.attr, own | set(METHODS), where)

    def test_no_variable_has_the_name_of_an_import_or_a_class_of_its_file(self):
        for name, tree in self.trees.items():
            taken = {node.name for node in ast.walk(tree) if isinstance(node, ast.ClassDef)}
            for node in ast.walk(tree):
                if isinstance(node, ast.ImportFrom):
                    taken.update(alias.name for alias in node.names)
            for node in ast.walk(tree):
                if isinstance(node, ast.arg):
                    self.assertNotIn(node.arg, taken, name)
                if isinstance(node, ast.Name) and isinstance(node.ctx, ast.Store):
                    self.assertNotIn(node.id, taken, name)

    def test_methods_and_attributes_of_a_class_are_unlike(self):
        for where, node in self.nodes():
            if isinstance(node, ast.ClassDef):
                methods = {part.name for part in node.body if isinstance(part, ast.FunctionDef)}
                kept = {part.attr for part in ast.walk(node) if isinstance(part, ast.Attribute) and isinstance(part.ctx, ast.Store)}
                self.assertEqual(methods & kept, set(), where)

    def test_names_of_classes_and_underscores(self):
        for where, node in self.nodes():
            if isinstance(node, ast.ClassDef):
                self.assertRegex(node.name, "^[A-Z]", where)
            if isinstance(node, ast.Name) and node.id == "_":
                self.assertIsInstance(node.ctx, ast.Store, where)
            if isinstance(node, (ast.Tuple, ast.List)) and isinstance(node.ctx, ast.Store):
                self.assertLessEqual([getattr(part, "id", "") for part in node.elts].count("_"), 1, where)

    def test_sets_are_only_sorted_measured_or_looked_into(self):
        for where, node in self.nodes():
            for part in ast.iter_child_nodes(node):
                is_set = isinstance(part, (ast.Set, ast.SetComp)) or (
                    isinstance(part, ast.Call) and isinstance(part.func, ast.Name) and part.func.id == "set")
                if is_set:
                    self.assertIsInstance(node, ast.Call, where)
                    self.assertIn(node.func.id, ("sorted", "len"), where)

    def test_strings(self):
        for where, node in self.nodes():
            if isinstance(node, ast.Constant) and isinstance(node.value, str):
                self.assertNotIn("%", node.value, where)


if __name__ == "__main__":
    unittest.main()
