"""The package keeps to the subset of Python, as far as a look at its files can tell."""

import ast
import importlib
import inspect
import os
import unittest

TOP = os.path.dirname(os.path.dirname(os.path.abspath(__file__)))
PACKAGE = os.path.join(TOP, "tugline")
INTERFACE = {
    "errors": ("TugError", "NoText", "NoKnob", "TooMany", "NoPull", "Nothing", "NoPlace", "NoRow"),
    "sources": ("read", "knobs", "line_of", "set_to"),
    "plain": ("run",),
    "forms": ("form_of", "plain_form", "added", "taken", "times", "worth", "along"),
    "traced": ("traced", "first_broken"),
    "stretches": ("stretch", "border", "parting", "wrong_row"),
    "pulls": ("pull", "pull_any", "pull_two"),
    "books": ("Book",),
    "desk": ("Desk",),
    "ways": ("follow", "Ways"),
}
CLASSES = {
    "books": ("Book", "(text)", {
        "text": "()", "set_knob": "(knob, number)", "pull": "(place, due, knob, low, high, *, pinned=())", "back": "()",
        "on": "()", "changes": "()", "whence": "(place)", "__eq__": "(other)",
    }),
    "desk": ("Desk", "()", {"say": "(row)"}),
    "ways": ("Ways", "(text, *, room=30, steps=300)", {"ask": "(setting)", "ways": "()", "runs": "()", "broken": "(setting)"}),
}
SIGNATURES = {
    "sources": {"read": "(text)", "knobs": "(text)", "line_of": "(text, knob)", "set_to": "(text, numbers)"},
    "plain": {"run": "(text, *, setting=None, steps=300)"},
    "forms": {
        "form_of": "(knob)", "plain_form": "(number)", "added": "(one, other)", "taken": "(one, other)",
        "times": "(form, number)", "worth": "(form, setting)", "along": "(form, knob, setting)",
    },
    "traced": {"traced": "(text, *, setting=None, steps=300)", "first_broken": "(conditions, setting)"},
    "stretches": {
        "stretch": "(text, knob, number, *, steps=300)", "border": "(text, knob, number, *, steps=300)",
        "parting": "(text, knob, low, high, *, steps=300, most=100)",
        "wrong_row": "(text, knob, low, high, thing, *, steps=300)",
    },
    "pulls": {
        "pull": "(text, place, due, knob, low, high, *, pinned=(), steps=300, most=100)",
        "pull_any": "(text, place, due, low, high, *, pinned=(), steps=300, most=100)",
        "pull_two": "(text, place, due, knob, other, *, pinned=(), steps=300)",
    },
    "ways": {"follow": "(text, way, *, steps=300)"},
}
BUILTINS = """len range enumerate zip min max sum abs sorted reversed int str bool list tuple dict set isinstance
ord repr any all divmod super Exception ValueError""".split()
METHODS = """append clear copy count endswith extend find get index insert isalnum isalpha isdigit islower isspace
isupper items join keys ljust lower lstrip partition pop remove replace reverse rfind rjust rpartition rsplit rstrip
setdefault split splitlines startswith strip update upper values zfill bit_length""".split()
BARRED = (
    ast.Global, ast.Nonlocal, ast.AsyncFunctionDef, ast.Await, ast.Lambda, ast.Div, ast.JoinedStr, ast.Yield,
    ast.YieldFrom, ast.GeneratorExp, ast.With, ast.Starred, ast.NamedExpr, ast.AnnAssign,
)


def files():
    for name in sorted(os.listdir(PACKAGE)):
        if name != "__pycache__":
            with open(os.path.join(PACKAGE, name), encoding="utf-8") as held:
                yield name, held.read()


def trees():
    for name, source in files():
        yield name, ast.parse(source)


class Language(unittest.TestCase):
    def test_files(self):
        for name, source in files():
            self.assertRegex(name, r"^[a-z_]+\.py$")
            self.assertTrue(all(sign == "\n" or " " <= sign <= "~" for sign in source), name)
            self.assertLessEqual(len(source.splitlines()), 399, name)
            self.assertLessEqual(max(map(len, source.splitlines())), 120, name)

    def test_functions(self):
        for name, tree in trees():
            for node in ast.walk(tree):
                if isinstance(node, ast.FunctionDef):
                    self.assertLessEqual(node.end_lineno - node.lineno + 1, 40, node.name)
                    self.assertEqual(node.decorator_list, [])
                    self.assertIsNotNone(ast.get_docstring(node) or node.name == "__init__" or None, node.name)

    def test_barred_parts(self):
        for name, tree in trees():
            for node in ast.walk(tree):
                self.assertNotIsInstance(node, BARRED, name)
                if isinstance(node, ast.Constant):
                    self.assertNotIsInstance(node.value, (float, bytes, complex))
                    self.assertNotIn("%", str(node.value))

    def test_imports(self):
        after = {}
        for name, tree in trees():
            after[name[:-3]] = set()
            for node in ast.walk(tree):
                self.assertNotIsInstance(node, ast.Import)
                if isinstance(node, ast.ImportFrom):
                    self.assertIn(node, tree.body)
                    package, module = node.module.split(".")
                    self.assertEqual((package, node.level), ("tugline", 0))
                    after[name[:-3]].add(module)
                    for alias in node.names:
                        self.assertIsNone(alias.asname)
                        found = getattr(importlib.import_module(node.module), alias.name)
                        self.assertEqual(found.__module__, node.module)
        while after:
            free = [name for name in after if not after[name] & set(after)]
            self.assertTrue(free, "files import from each other: %s" % sorted(after))
            for name in free:
                del after[name]

    def test_builtins_and_methods(self):
        own = {"__init__"}
        for name, tree in trees():
            own |= {node.name for node in ast.walk(tree) if isinstance(node, (ast.FunctionDef, ast.ClassDef))}
        for name, tree in trees():
            for node in ast.walk(tree):
                if isinstance(node, ast.Call) and isinstance(node.func, ast.Name):
                    self.assertIn(node.func.id, own | set(BUILTINS), name)
                if isinstance(node, ast.Call) and isinstance(node.func, ast.Attribute):
                    self.assertIn(node.func.attr, own | set(METHODS), name)

    def test_names(self):
        import builtins
        for name, tree in trees():
            imported = {alias.name for node in tree.body if isinstance(node, ast.ImportFrom) for alias in node.names}
            classes = {node.name for node in tree.body if isinstance(node, ast.ClassDef)}
            for node in ast.walk(tree):
                if isinstance(node, ast.Name) and isinstance(node.ctx, ast.Store):
                    self.assertFalse(hasattr(builtins, node.id), node.id)
                    self.assertNotIn(node.id, imported | classes)
                if isinstance(node, ast.arg):
                    self.assertFalse(hasattr(builtins, node.arg), node.arg)
                    self.assertNotIn(node.arg, imported | classes)
                if isinstance(node, ast.Attribute) and isinstance(node.ctx, ast.Store):
                    for kind in (str, int, list, dict, set, bytes, tuple):
                        self.assertFalse(hasattr(kind, node.attr), node.attr)

    def test_methods_and_attributes_differ(self):
        methods, attributes = set(), set()
        for name, tree in trees():
            for node in ast.walk(tree):
                if isinstance(node, ast.ClassDef):
                    methods |= {part.name for part in node.body if isinstance(part, ast.FunctionDef)}
                if isinstance(node, ast.Attribute) and isinstance(node.ctx, ast.Store):
                    attributes.add(node.attr)
        self.assertEqual(methods & attributes, set())

    def test_the_interface_stands_in_its_files(self):
        for module, names in INTERFACE.items():
            with open(os.path.join(PACKAGE, module + ".py"), encoding="utf-8") as held:
                tree = ast.parse(held.read())
            found = [node.name for node in tree.body if isinstance(node, (ast.FunctionDef, ast.ClassDef))]
            for name in names:
                self.assertIn(name, found)

    def test_arguments_and_defaults(self):
        for module, functions in SIGNATURES.items():
            for name, shown in functions.items():
                found = getattr(importlib.import_module("tugline." + module), name)
                self.assertEqual(str(inspect.signature(found)), shown, name)

    def test_methods_stand_in_the_class_itself(self):
        for module, (name, shown, methods) in CLASSES.items():
            kind = getattr(importlib.import_module("tugline." + module), name)
            self.assertEqual(str(inspect.signature(kind)), shown, name)
            for method, due in methods.items():
                self.assertIn(method, vars(kind))
                found = str(inspect.signature(vars(kind)[method]))
                self.assertEqual(found.replace("(self, ", "(").replace("(self)", "()"), due, method)


if __name__ == "__main__":
    unittest.main()
