"""The package keeps to the small part of Python that its rules (L1 to L28) allow, as far as a test can see it."""

import ast
import builtins
import pathlib
import re
import unittest

PACKAGE = pathlib.Path(__file__).resolve().parent.parent / "sharedtrees"

STATEMENTS = (ast.Assign, ast.AugAssign, ast.If, ast.While, ast.For, ast.Return, ast.Break, ast.Continue, ast.Pass,
              ast.Raise, ast.Try, ast.Expr, ast.FunctionDef, ast.ClassDef, ast.ImportFrom)
EXPRESSIONS = (ast.Constant, ast.Name, ast.Attribute, ast.Subscript, ast.Slice, ast.List, ast.Tuple, ast.Dict, ast.BinOp,
               ast.UnaryOp, ast.BoolOp, ast.Compare, ast.IfExp, ast.Call, ast.ListComp, ast.JoinedStr,
               ast.FormattedValue, ast.Lambda)
OWN_NAMES = """len range enumerate zip min max sum abs sorted reversed int str bool list tuple dict set frozenset
isinstance ord repr any all divmod Exception ValueError TypeError KeyError IndexError LookupError ZeroDivisionError
ArithmeticError OverflowError RuntimeError NotImplementedError AttributeError StopIteration""".split()
METHODS = """append clear copy count endswith extend find get index insert isalnum isalpha isdigit islower isspace isupper
items join keys ljust lower lstrip partition pop remove replace reverse rfind rjust rpartition rsplit rstrip setdefault
split splitlines startswith strip update upper values zfill bit_length""".split()
WORDS = """type typing typing_extensions enum Enum IntEnum StrEnum Flag IntFlag Generic Protocol ABC ABCMeta namedtuple
NamedTuple TypedDict TYPE_CHECKING abstractmethod""".split()
UNUSED = """register mro elements open input version_info with_traceback add_note attrgetter breakpoint builtins compile
copyright credits delattr dir eval exec exit gc getattr globals hasattr help id importlib license locals methodcaller os
quit setattr super type vars sys format format_map chr print""".split()


def files():
    return sorted(PACKAGE.glob("*.py"))


def parsed():
    return [(path.name, ast.parse(path.read_text("ascii"))) for path in files()]


def walked(kinds):
    return [(name, node) for name, tree in parsed() for node in ast.walk(tree) if isinstance(node, kinds)]


def stored_names(tree):
    found = [node.arg for node in ast.walk(tree) if isinstance(node, ast.arg)]
    return found + [node.id for node in ast.walk(tree) if isinstance(node, ast.Name) and isinstance(node.ctx, ast.Store)]


class Files(unittest.TestCase):
    def test_folder_holds_plain_files_alone(self):
        found = [path.name for path in PACKAGE.iterdir() if path.name != "__pycache__"]
        self.assertIn("__init__.py", found)
        for name in found:
            self.assertRegex(name, r"^([a-z][a-z0-9_]*|__init__)\.py$")
            self.assertNotIn(name[:-3], dir(builtins))
            self.assertNotRegex(name, r"^(test|tests|testing|test_.*|site|conftest)\.py$")

    def test_signs_and_sizes(self):
        for path in files():
            text = path.read_bytes().decode("ascii")
            self.assertRegex(text, r"\A[ -~\n]*\Z", path.name)
            self.assertLessEqual(len(text.splitlines()), 400, path.name)
            for line in text.splitlines():
                self.assertLessEqual(len(line), 120, path.name)

    def test_words_that_stand_nowhere(self):
        for path in files():
            text = path.read_text("ascii")
            for word in WORDS:
                self.assertIsNone(re.search(rf"\b{word}\b", text), (path.name, word))
            self.assertIsNone(re.search("dataclass|overload|contextmanager", text), path.name)


class Imports(unittest.TestCase):
    def test_own_files_alone_and_from_where_the_name_is_defined(self):
        bound = {name[:-3]: [getattr(node, "name", None) or node.targets[0].id for node in tree.body
                             if isinstance(node, (ast.FunctionDef, ast.ClassDef, ast.Assign))] for name, tree in parsed()}
        for name, node in walked(ast.ImportFrom):
            folder, module = node.module.split(".")
            self.assertEqual((folder, node.level), ("sharedtrees", 0), name)
            for alias in node.names:
                self.assertIn(alias.name, bound[module], name)
                self.assertIsNone(alias.asname, name)

    def test_no_two_files_draw_from_one_another(self):
        drawn = {name[:-3]: [node.module.split(".")[1] for node in tree.body if isinstance(node, ast.ImportFrom)]
                 for name, tree in parsed()}
        while drawn:
            free = [name for name in drawn if not [other for other in drawn[name] if other in drawn]]
            self.assertNotEqual(free, [])
            for name in free:
                drawn.pop(name)


class Forms(unittest.TestCase):
    def test_statements_and_expressions(self):
        for name, node in walked((ast.stmt, ast.expr)):
            self.assertIsInstance(node, STATEMENTS + EXPRESSIONS, (name, node.lineno))

    def test_docstrings_stand_at_a_files_top_alone(self):
        for name, tree in parsed():
            for node in ast.walk(tree):
                if isinstance(node, ast.Expr) and node != tree.body[0]:
                    self.assertIsInstance(node.value, ast.Call, (name, node.lineno))

    def test_one_target_in_an_assignment(self):
        for name, node in walked(ast.Assign):
            self.assertEqual(len(node.targets), 1, (name, node.lineno))
            self.assertNotIsInstance(node.targets[0], (ast.Tuple, ast.List), (name, node.lineno))

    def test_loops_have_no_else(self):
        for name, node in walked((ast.For, ast.While)):
            self.assertEqual(node.orelse, [], (name, node.lineno))

    def test_functions(self):
        for name, node in walked(ast.FunctionDef):
            self.assertLessEqual(node.end_lineno - node.lineno + 1, 40, (name, node.name))
            self.assertEqual(node.decorator_list, [], (name, node.name))
            self.assertIsNone(node.args.vararg or node.args.kwarg or node.returns, (name, node.name))
            self.assertEqual(node.args.kwonlyargs + node.args.posonlyargs, [], (name, node.name))

    def test_comprehensions_have_one_for_and_at_most_one_if(self):
        for name, node in walked(ast.ListComp):
            self.assertEqual(len(node.generators), 1, (name, node.lineno))
            self.assertLessEqual(len(node.generators[0].ifs), 1, (name, node.lineno))

    def test_operators(self):
        for name, node in walked((ast.BinOp, ast.AugAssign)):
            self.assertNotIsInstance(node.op, (ast.Div, ast.MatMult, ast.Pow), (name, node.lineno))

    def test_is_stands_beside_none_true_and_false(self):
        for name, node in walked(ast.Compare):
            for operator, right in zip(node.ops, node.comparators):
                if isinstance(operator, (ast.Is, ast.IsNot)):
                    self.assertIn(getattr(right, "value", right), (None, True, False), (name, node.lineno))

    def test_constants(self):
        for name, node in walked(ast.Constant):
            self.assertIn(node.value.__class__, (int, str, bool, None.__class__), (name, node.lineno))


class Names(unittest.TestCase):
    def test_no_name_is_taken_from_python(self):
        for name, tree in parsed():
            for stored in stored_names(tree):
                self.assertRegex(stored, r"^[A-Za-z][A-Za-z0-9_]*$", name)
                self.assertNotIn(stored, dir(builtins), name)

    def test_python_names_that_are_read(self):
        for name, node in walked(ast.Name):
            if node.id in dir(builtins):
                self.assertIn(node.id, OWN_NAMES, (name, node.lineno))
            self.assertNotIn(node.id, UNUSED, (name, node.lineno))

    def test_locals_are_not_called_like_classes_imports_or_functions_of_their_file(self):
        for name, tree in parsed():
            top = [node.name for node in tree.body if isinstance(node, (ast.FunctionDef, ast.ClassDef))]
            top += [alias.name for node in tree.body if isinstance(node, ast.ImportFrom) for alias in node.names]
            self.assertEqual(sorted(set(top)), sorted(top), name)
            self.assertEqual([stored for stored in stored_names(tree) if stored in top], [], name)

    def test_methods_and_values_of_objects(self):
        methods = [part.name for name, node in walked(ast.ClassDef) for part in node.body
                   if isinstance(part, ast.FunctionDef)]
        values = [node.attr for name, node in walked(ast.Attribute) if isinstance(node.ctx, ast.Store)]
        self.assertEqual([value for value in values if value in methods], [])
        taken = [word for kind in (str, int, list, dict, set, bytes) for word in dir(kind)]
        self.assertEqual([word for word in values + methods if word in taken and word != "__init__"], [])
        for name, node in walked(ast.Attribute):
            self.assertIn(node.attr, methods + values + METHODS, (name, node.lineno))
            self.assertNotIn(node.attr, UNUSED, (name, node.lineno))

    def test_sets_are_not_kept(self):
        for name, tree in parsed():
            inside = [part for node in ast.walk(tree) if isinstance(node, ast.Call)
                      and getattr(node.func, "id", None) in ("sorted", "len") for part in ast.walk(node)]
            for node in ast.walk(tree):
                if isinstance(node, ast.Call) and getattr(node.func, "id", None) in ("set", "frozenset"):
                    self.assertIn(node, inside, (name, node.lineno))


class Tops(unittest.TestCase):
    def test_top_of_a_file(self):
        for name, tree in parsed():
            for node in tree.body[1:]:
                self.assertIsInstance(node, (ast.ImportFrom, ast.FunctionDef, ast.ClassDef, ast.Assign), name)
            for node in tree.body:
                if isinstance(node, ast.Assign):
                    self.assertIsInstance(node.value, (ast.Constant, ast.UnaryOp, ast.Tuple), (name, node.lineno))

    def test_class_bodies(self):
        for name, node in walked(ast.ClassDef):
            self.assertLessEqual(len(node.bases), 1, (name, node.name))
            for part in node.body:
                self.assertIsInstance(part, (ast.FunctionDef, ast.Pass), (name, node.name))


if __name__ == "__main__":
    unittest.main()
