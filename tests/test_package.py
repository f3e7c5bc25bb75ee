"""The interface, and the rules of the language that a test can see at once."""

import ast
import builtins
import importlib
import inspect
import os
import unittest

FOLDER = os.path.join(os.path.dirname(os.path.dirname(os.path.abspath(__file__))), "farcalls")

FUNCTIONS = {
    "plans": {"need_plan": "(thing)", "fields_of": "(plan, kind)", "words_of": "(plan, kind)"},
    "acting": {"act": "(plan, kind, fields, call, *, me, word, args=())"},
    "plantexts": {"show_worth": "(worth)", "show_plan": "(plan)", "read_plan": "(text)"},
    "judged": {"first_odd": "(plan, outer, acts, *, lost=())"},
    "housetexts": {"read_house": "(text)"},
    "views": {"first_wrong": "(plan, number, view)", "again_of": "(plan, number, view)"},
}
CLASSES = {
    "near": {"Near": {
        "__init__": "(self, plan)", "make": "(self, kind, *, args=())", "call": "(self, to, word, *, args=())",
        "turn": "(self)", "turns": "(self, most=400)", "settled": "(self, name)", "stands": "(self, name)",
        "things": "(self)", "line": "(self)", "__len__": "(self)"}},
    "wires": {"Wire": {
        "__init__": "(self)", "put": "(self, row)", "letter": "(self)", "take": "(self, letter)", "heard": "(self)",
        "unheard": "(self)", "__eq__": "(self, other)", "__len__": "(self)"}},
    "houses": {"House": {
        "__init__": "(self, plan, number)", "make": "(self, kind, *, args=())", "call": "(self, to, word, *, args=())",
        "offer": "(self, house, name)", "let_go": "(self, name)", "turn": "(self)", "take": "(self, house, letter)",
        "post": "(self)", "again": "(self)", "lost": "(self, house)", "sweep": "(self)", "mark": "(self, number)",
        "clear": "(self, number)", "settled": "(self, name)", "stands": "(self, name)", "things": "(self)",
        "line": "(self)", "held": "(self)", "names": "(self)", "view": "(self)", "copy": "(self)",
        "__eq__": "(self, other)", "__len__": "(self)", "__str__": "(self)"}},
    "worlds": {"World": {
        "__init__": "(self, plan, *, many=3)", "__eq__": "(self, other)", "make": "(self, house, kind, *, args=())",
        "call": "(self, house, to, word, *, args=())", "offer": "(self, house, other, name)",
        "let_go": "(self, house, name)", "sweep": "(self, house)", "mark": "(self, house, number)",
        "clear": "(self, house, number)", "do": "(self, way)", "ways": "(self)", "step": "(self, number)",
        "go": "(self, *, most=2000)", "settled": "(self, house, name)", "stands": "(self, house, name)",
        "things": "(self, house)", "names": "(self, house)", "held": "(self, house)", "line": "(self, house)",
        "up": "(self)", "net": "(self)", "outer": "(self)", "acts": "(self)", "is_still": "(self)",
        "house_at": "(self, number)", "copy": "(self)"}},
    "desk": {"Desk": {"__init__": "(self)", "say": "(self, row)"}},
}
# names that the language bars for attributes, and words that it bars everywhere
BARRED = {"items", "keys", "values", "pop", "update", "append", "clear", "extend", "insert", "remove", "reverse", "setdefault",
          "sort", "args", "encode", "decode", "hex", "fromhex", "format", "format_map", "mro"}
WORDS = {"type", "typing", "enum", "register", "elements", "open", "input", "law", "version_info"}
LIBRARY = {"heapq", "math", "itertools", "__future__"}


def texts():
    """The name and the text of each file of the package."""
    for folder, _, names in os.walk(FOLDER):
        if os.path.basename(folder) == "__pycache__":
            continue
        for name in sorted(names):
            with open(os.path.join(folder, name), encoding="utf-8") as file:
                yield name, file.read()


class Interface(unittest.TestCase):
    def test_functions(self):
        for file, functions in FUNCTIONS.items():
            module = importlib.import_module(f"farcalls.{file}")
            for name, wanted in functions.items():
                function = getattr(module, name)
                self.assertEqual(function.__module__, module.__name__)
                self.assertEqual(str(inspect.signature(function)), wanted)

    def test_classes(self):
        for file, classes in CLASSES.items():
            module = importlib.import_module(f"farcalls.{file}")
            for name, methods in classes.items():
                self.assertEqual(getattr(module, name).__module__, module.__name__)
                for method, wanted in methods.items():
                    with self.subTest(method):
                        self.assertIn(method, vars(getattr(module, name)))
                        self.assertEqual(str(inspect.signature(vars(getattr(module, name))[method])), wanted)


def imported():
    """Of each file of the package the files from which it imports."""
    return {name[:-3]: [node.module.removeprefix("farcalls.") for node in ast.walk(ast.parse(text))
                        if isinstance(node, ast.ImportFrom)] for name, text in texts()}


class Rules(unittest.TestCase):
    def test_files(self):
        for name, _ in texts():
            self.assertRegex(name, "^[a-z0-9_]+[.]py$")

    def test_sizes(self):
        for name, text in texts():
            with self.subTest(name):
                self.assertLessEqual(len(text.splitlines()), 399)
                self.assertLessEqual(max([len(line) for line in text.splitlines()]), 120)
                for node in ast.walk(ast.parse(text)):
                    if isinstance(node, ast.FunctionDef):
                        self.assertLessEqual(node.end_lineno - node.lineno + 1, 40)

    def test_signs(self):
        for name, text in texts():
            with self.subTest(name):
                self.assertTrue(all(sign == "\n" or " " <= sign <= "~" for sign in text))
                for node in ast.walk(ast.parse(text)):
                    if isinstance(node, ast.Constant) and isinstance(node.value, str):
                        self.assertNotIn("%", node.value)

    def test_names(self):
        methods, attributes = set(), set()
        for name, text in texts():
            for node in ast.walk(ast.parse(text)):
                with self.subTest(name):
                    if isinstance(node, ast.ClassDef):
                        methods.update(part.name for part in node.body if isinstance(part, ast.FunctionDef))
                    if isinstance(node, ast.Attribute) and isinstance(node.ctx, ast.Store):
                        attributes.add(node.attr)
                    if isinstance(node, (ast.Name, ast.arg, ast.Attribute)):
                        word = getattr(node, "id", getattr(node, "arg", getattr(node, "attr", None)))
                        self.assertNotIn(word, WORDS)
                    if isinstance(node, ast.arg):
                        self.assertNotIn(node.arg, set(dir(builtins)))
                    if isinstance(node, ast.Name) and isinstance(node.ctx, ast.Store):
                        self.assertNotIn(node.id, set(dir(builtins)))
        self.assertEqual(methods & attributes, set())
        self.assertEqual(attributes & BARRED, set())

    def test_attributes_are_given_through_local_names(self):
        for name, text in texts():
            tree = ast.parse(text)
            top = {part.id for row in tree.body if isinstance(row, ast.Assign) for part in row.targets}
            top.update(row.name for row in tree.body if isinstance(row, (ast.ClassDef, ast.FunctionDef)))
            for node in ast.walk(tree):
                if isinstance(node, ast.Attribute) and isinstance(node.ctx, (ast.Store, ast.Del)):
                    with self.subTest(f"{name} {node.lineno}"):
                        self.assertIsInstance(node.value, ast.Name)
                        self.assertNotIn(node.value.id, top)

    def test_imports(self):
        for name, text in texts():
            for node in ast.walk(ast.parse(text)):
                with self.subTest(name):
                    self.assertNotIsInstance(node, (ast.Import, ast.Global, ast.AsyncFunctionDef, ast.Div))
                    if isinstance(node, ast.ImportFrom):
                        self.assertEqual(node.level, 0)
                        self.assertTrue(node.module in LIBRARY or node.module.startswith("farcalls."))

    def test_no_two_files_import_from_each_other(self):
        files = imported()
        for name in files:
            due, seen = list(files[name]), set()
            while due:
                other = due.pop()
                if other not in seen:
                    seen.add(other)
                    due.extend(files.get(other, []))
            self.assertNotIn(name, seen)

    def test_names_are_imported_from_the_files_that_define_them(self):
        trees = {name[:-3]: ast.parse(text) for name, text in texts()}
        for name, tree in trees.items():
            for node in tree.body:
                if isinstance(node, ast.ImportFrom) and node.module not in LIBRARY:
                    there = trees[node.module.removeprefix("farcalls.")].body
                    defined = {row.name for row in there if isinstance(row, (ast.ClassDef, ast.FunctionDef))}
                    defined.update(part.id for row in there if isinstance(row, ast.Assign) for part in row.targets)
                    self.assertLessEqual({alias.name for alias in node.names}, defined, name)


if __name__ == "__main__":
    unittest.main()
