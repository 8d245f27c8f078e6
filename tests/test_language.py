"""The package keeps to the rules of LANGUAGE.md, as far as they can be seen in the code; each test names its rules."""

import ast
import builtins
import re
import unittest
from pathlib import Path

PACKAGE = Path(__file__).parent.parent / "treeandtrip"
FILES = {path.stem: path.read_text(encoding="utf-8") for path in sorted(PACKAGE.glob("*.py"))}
TREES = {name: ast.parse(text) for name, text in FILES.items()}

BUILTINS = set("""
    len range enumerate zip min max sum abs sorted reversed int str bool list tuple dict set isinstance ord repr any all
    divmod type ValueError KeyError IndexError LookupError ZeroDivisionError
""".split())
METHODS = set("""
    append clear copy count endswith extend find get index insert isalnum isalpha isdigit islower isspace isupper items
    join keys ljust lower lstrip partition pop remove replace reverse rfind rjust rpartition rsplit rstrip setdefault
    split splitlines startswith strip update upper values zfill bit_length
""".split())
STATEMENTS = (
    ast.Assign, ast.AugAssign, ast.If, ast.While, ast.For, ast.Return, ast.Break, ast.Continue, ast.Pass, ast.Raise,
    ast.Assert, ast.Delete, ast.Try, ast.Expr, ast.FunctionDef, ast.ClassDef, ast.ImportFrom)
BARRED = set("""
    register mro elements open input law version_info with_traceback add_note attrgetter breakpoint builtins compile
    copyright credits delattr dir eval exec exit gc globals help id importlib license locals methodcaller os quit vars
    sys super typing enum namedtuple dataclass overload contextmanager
""".split())


def functions(tree):
    return [node for node in ast.walk(tree) if isinstance(node, ast.FunctionDef)]


def strings_but_docs(tree):
    docs = [node.value for node in ast.walk(tree) if isinstance(node, ast.Expr)]
    constants = [node for node in ast.walk(tree) if isinstance(node, ast.Constant) and node not in docs]
    return [node.value for node in constants if isinstance(node.value, str)]


def imports_of(tree):
    return [node for node in tree.body if isinstance(node, ast.ImportFrom)]


def methods_of(tree):
    return [each for node in tree.body if isinstance(node, ast.ClassDef) for each in functions(node)
            if each in node.body and each.name != "__init__"]


OWN_METHODS = {node.name for tree in TREES.values() for node in methods_of(tree)}


def names_at_top(tree):
    found = [node.name for node in tree.body if isinstance(node, (ast.FunctionDef, ast.ClassDef))]
    found += [node.targets[0].id for node in tree.body if isinstance(node, ast.Assign)]
    return found


class Language(unittest.TestCase):

    def test_files(self):
        """L1, L10, L14."""
        for path in PACKAGE.iterdir():
            if path.name != "__pycache__":
                self.assertRegex(path.name, r"^[a-z_]+\.py$")
        for name, text in FILES.items():
            lines = text.split("\n")
            self.assertLessEqual(len(lines), 400, name)
            self.assertLessEqual(max(len(line) for line in lines), 120, name)
            self.assertIsNone(re.search(r"[^\n -~]", text), name)

    def test_functions_are_short(self):
        """L10."""
        for name, tree in TREES.items():
            for node in functions(tree):
                self.assertLessEqual(node.end_lineno - node.lineno + 1, 40, (name, node.name))

    def test_module_level(self):
        """L2, L3, L15, L16."""
        for name, tree in TREES.items():
            for at, node in enumerate(tree.body):
                doc = at == 0 and isinstance(node, ast.Expr)
                self.assertTrue(doc or isinstance(node, (ast.ImportFrom, ast.FunctionDef, ast.ClassDef, ast.Assign)))
            bound = names_at_top(tree)
            for node in imports_of(tree):
                self.assertRegex(node.module, r"^treeandtrip\.[a-z]+$")
                self.assertEqual(node.level, 0)
                for alias in node.names:
                    self.assertIsNone(alias.asname)
                    self.assertIn(alias.name, names_at_top(TREES[node.module.split(".")[1]]), name)
                    bound.append(alias.name)
            self.assertEqual(len(bound), len(set(bound)), name)

    def test_imports_are_read(self):
        for name, tree in TREES.items():
            read = {node.id for node in ast.walk(tree) if isinstance(node, ast.Name)}
            for node in imports_of(tree):
                for alias in node.names:
                    self.assertIn(alias.name, read, name)

    def test_no_two_files_import_from_each_other(self):
        """L16."""
        ahead = {name: {node.module.split(".")[1] for node in imports_of(tree)} for name, tree in TREES.items()}
        while ahead:
            free = [name for name in ahead if not ahead[name] & set(ahead)]
            self.assertNotEqual(free, [], ahead)
            ahead = {name: wanted for name, wanted in ahead.items() if name not in free}

    def test_statements(self):
        """L4, L6, L7, L20, L21."""
        for name, tree in TREES.items():
            for node in ast.walk(tree):
                if isinstance(node, ast.stmt):
                    self.assertIsInstance(node, STATEMENTS, name)
                if isinstance(node, (ast.FunctionDef, ast.ClassDef)):
                    self.assertEqual(node.decorator_list, [], name)
                if isinstance(node, ast.arg):
                    self.assertIsNone(node.annotation, name)
                if isinstance(node, ast.Compare):
                    for sign, right in zip(node.ops, node.comparators):
                        if isinstance(sign, (ast.Is, ast.IsNot)):
                            self.assertIn(getattr(right, "value", 0), (None, True, False), name)
                self.assertNotIsInstance(node, (ast.Div, ast.Set, ast.SetComp, ast.GeneratorExp, ast.Yield), name)
                self.assertFalse(isinstance(node, ast.Constant) and isinstance(node.value, float), name)

    def test_names(self):
        """L8, L12, L15, L17."""
        for name, tree in TREES.items():
            taken = {alias.name for node in imports_of(tree) for alias in node.names} | set(dir(builtins)) - {"_"}
            taken |= {node.name for node in tree.body if isinstance(node, ast.ClassDef)}
            for node in ast.walk(tree):
                if isinstance(node, ast.Name) and isinstance(node.ctx, ast.Load) and hasattr(builtins, node.id):
                    self.assertIn(node.id, BUILTINS, name)
                given = node.id if isinstance(node, ast.Name) and isinstance(node.ctx, ast.Store) else None
                given = node.arg if isinstance(node, ast.arg) else given
                given = node.name if isinstance(node, ast.FunctionDef) and node.name != "__init__" else given
                if given is not None:
                    self.assertNotIn(given, taken, name)
                    self.assertNotIn(given, BARRED, name)
                    self.assertRegex(given, r"^(_|_?[a-z][a-z0-9_]*|_?[A-Z][A-Z0-9_]*)$", name)
                    self.assertNotRegex(given, r"^_(wall|pe_|dcw_|enum_|cm_|lay_|law_|stub_|sre)", name)
                self.assertFalse(isinstance(node, ast.Name) and node.id == "_" and isinstance(node.ctx, ast.Load), name)

    def test_methods_and_keywords(self):
        """L18, L22, L25, L26."""
        for thing in ("", 1, [], {}, (), b"", set()):
            self.assertFalse(OWN_METHODS & set(dir(thing)))
        for name, tree in TREES.items():
            for node in tree.body:
                if isinstance(node, ast.ClassDef):
                    own = {each.name for each in methods_of(tree) if each in node.body}
                    stored = {each.attr for each in ast.walk(node) if isinstance(each, ast.Attribute)
                              and isinstance(each.ctx, ast.Store)}
                    self.assertFalse(own & stored, (name, node.name))
        for name, tree in TREES.items():
            for node in ast.walk(tree):
                if isinstance(node, ast.Call) and isinstance(node.func, ast.Attribute):
                    self.assertIn(node.func.attr, METHODS | OWN_METHODS, name)
                    self.assertEqual(node.keywords, [], name)
                if isinstance(node, ast.Call) and isinstance(node.func, ast.Name) and node.func.id in BUILTINS:
                    for keyword in node.keywords:
                        self.assertIn(keyword.arg, ("key", "reverse", "default", "start", "strict"), name)

    def test_attributes(self):
        """L18, L26: those that are read are assigned, through `self`, and none is called like a method of a value."""
        assigned, read = set(), set()
        for name, tree in TREES.items():
            called = [node.func for node in ast.walk(tree) if isinstance(node, ast.Call)]
            for node in ast.walk(tree):
                if isinstance(node, ast.Attribute) and isinstance(node.ctx, ast.Store):
                    self.assertEqual(node.value.id, "self", name)
                    assigned.add(node.attr)
                elif isinstance(node, ast.Attribute) and node not in called:
                    read.add(node.attr)
        self.assertEqual(read - {"__name__"} | {"what"}, assigned)
        for thing in ("", 1, [], {}, (), b"", set()):
            self.assertFalse(assigned & set(dir(thing)))

    def test_names_of_classes(self):
        """L8, L17: `type` and `__name__` stand in `type(error).__name__` alone."""
        for name, tree in TREES.items():
            told = [node.value.func for node in ast.walk(tree) if isinstance(node, ast.Attribute)
                    and node.attr == "__name__" and isinstance(node.value, ast.Call)]
            for node in ast.walk(tree):
                self.assertFalse(isinstance(node, ast.Name) and node.id == "type" and node not in told, name)
                if isinstance(node, ast.Attribute) and node.attr.startswith("__") and node.attr != "__init__":
                    self.assertEqual((node.attr, node.value.func.id), ("__name__", "type"), name)

    def test_sets_stand_in_sorted_alone(self):
        """L24."""
        for name, tree in TREES.items():
            within = [node.args[0] for node in ast.walk(tree) if isinstance(node, ast.Call)
                      and isinstance(node.func, ast.Name) and node.func.id in ("sorted", "len") and node.args]
            for node in ast.walk(tree):
                if isinstance(node, ast.Call) and isinstance(node.func, ast.Name) and node.func.id == "set":
                    self.assertIn(node, within, name)

    def test_strings(self):
        """L17, L27."""
        for name, tree in TREES.items():
            for text in strings_but_docs(tree):
                self.assertNotIn("%", text, name)
                self.assertFalse(set(re.findall(r"\w+", text)) & BARRED, name)

    def test_everything_listed_has_a_docstring(self):
        for name, tree in TREES.items():
            self.assertIsNotNone(ast.get_docstring(tree), name)
            for node in tree.body:
                if isinstance(node, (ast.FunctionDef, ast.ClassDef)) and not node.name.startswith("_"):
                    self.assertIsNotNone(ast.get_docstring(node), (name, node.name))
            for node in methods_of(tree):
                self.assertTrue(node.name.startswith("_") or ast.get_docstring(node), (name, node.name))


if __name__ == "__main__":
    unittest.main()
