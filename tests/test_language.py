"""The rules of the language that a walk over the package's files can see."""

import ast
import builtins
import pathlib
import re
import unittest

PACKAGE = pathlib.Path(__file__).resolve().parent.parent / "marketaccounts"

BUILTINS = set("""len range enumerate zip min max sum abs sorted reversed int str bool list tuple dict set frozenset
isinstance ord repr any all divmod Exception ValueError TypeError KeyError IndexError LookupError ZeroDivisionError
ArithmeticError OverflowError RuntimeError NotImplementedError AttributeError StopIteration""".split())

METHODS = set("""append clear copy count endswith extend find get index insert isalnum isalpha isdigit islower isspace
isupper items join keys ljust lower lstrip partition pop remove replace reverse rfind rjust rpartition rsplit rstrip
setdefault split splitlines startswith strip update upper values zfill bit_length""".split())

UNUSED_NAMES = set("""register mro elements open input version_info with_traceback add_note attrgetter breakpoint
builtins compile copyright credits delattr dir eval exec exit gc getattr globals hasattr help id importlib license
locals methodcaller os quit setattr super sys type vars""".split())

WORDS = re.compile(r"\b(type|typing|typing_extensions|enum|Enum|IntEnum|StrEnum|Flag|IntFlag|Generic|Protocol|ABC|"
                   r"ABCMeta|namedtuple|NamedTuple|TypedDict|TYPE_CHECKING|abstractmethod)\b|"
                   r"dataclass|overload|contextmanager")

NODES = (
    ast.Module, ast.ImportFrom, ast.alias, ast.FunctionDef, ast.arguments, ast.arg, ast.ClassDef, ast.Assign,
    ast.AugAssign, ast.If, ast.While, ast.For, ast.Return, ast.Break, ast.Continue, ast.Pass, ast.Raise, ast.Try,
    ast.ExceptHandler, ast.Expr, ast.Constant, ast.List, ast.Tuple, ast.Dict, ast.BinOp, ast.UnaryOp, ast.BoolOp,
    ast.Compare, ast.IfExp, ast.Call, ast.Attribute, ast.Subscript, ast.Slice, ast.ListComp, ast.comprehension,
    ast.JoinedStr, ast.FormattedValue, ast.Lambda, ast.Name, ast.keyword, ast.expr_context, ast.boolop, ast.cmpop,
    ast.unaryop, ast.operator,
)


def files():
    return sorted(path for path in PACKAGE.rglob("*") if "__pycache__" not in path.parts)


def trees():
    return [(path.name, ast.parse(path.read_text())) for path in files()]


def nodes():
    return [(name, node) for name, tree in trees() for node in ast.walk(tree)]


def bound_names(node):
    if isinstance(node, ast.Name) and isinstance(node.ctx, ast.Store):
        return [node.id]
    if isinstance(node, ast.arg):
        return [node.arg]
    if isinstance(node, (ast.FunctionDef, ast.ClassDef)):
        return [node.name]
    return []


class Files(unittest.TestCase):
    def test_names(self):
        self.assertIn("__init__.py", [path.name for path in files()])
        for path in files():
            self.assertRegex(path.name, r"^[a-z][a-z0-9_]*\.py$|^__init__\.py$")

    def test_signs_lines_and_words(self):
        for path in files():
            text = path.read_text()
            lines = text.split("\n")
            self.assertTrue(all(sign == "\n" or " " <= sign <= "~" for sign in text), path.name)
            self.assertTrue(len(lines) <= 400 and max(len(line) for line in lines) <= 120, path.name)
            self.assertIsNone(WORDS.search(text), path.name)


class Syntax(unittest.TestCase):
    def test_kinds_of_nodes(self):
        for name, node in nodes():
            self.assertIsInstance(node, NODES, name)
            self.assertNotIsInstance(node, (ast.Div, ast.MatMult), name)
            self.assertFalse(isinstance(node, (ast.For, ast.While)) and node.orelse, name)
            self.assertFalse(isinstance(node, ast.Assign) and len(node.targets) != 1, name)

    def test_no_text_stands_as_a_statement_but_a_files_own(self):
        for name, tree in trees():
            texts = [node for node in ast.walk(tree) if isinstance(node, ast.Expr) and node is not tree.body[0]]
            self.assertTrue(all(isinstance(node.value, ast.Call) for node in texts), name)

    def test_functions(self):
        for name, node in nodes():
            if isinstance(node, ast.FunctionDef):
                self.assertTrue(node.end_lineno - node.lineno < 40, f"{name} {node.name}")
                told = node.args
                self.assertFalse(told.vararg or told.kwarg or told.kwonlyargs or node.decorator_list, node.name)
                self.assertFalse(node.name.startswith("_") and node.name != "__init__", node.name)

    def test_whole_numbers_only(self):
        for name, node in nodes():
            if isinstance(node, ast.Constant):
                self.assertIn(type(node.value), (int, str, bool, type(None)), name)

    def test_top_of_a_file(self):
        for name, tree in trees():
            for node in tree.body[1:]:
                self.assertIsInstance(node, (ast.ImportFrom, ast.FunctionDef, ast.ClassDef, ast.Assign), name)
                if isinstance(node, ast.Assign):
                    ast.literal_eval(node.value)


class Names(unittest.TestCase):
    def test_imports_are_the_packages_own_from_where_they_are_defined(self):
        defined = {name[:-3]: {bound for node in tree.body for part in [node, *getattr(node, "targets", [])]
                               for bound in bound_names(part)} for name, tree in trees()}
        for name, node in nodes():
            if isinstance(node, ast.ImportFrom):
                self.assertRegex(node.module, r"^marketaccounts\.[a-z]+$")
                for alias in node.names:
                    self.assertIn(alias.name, defined[node.module.split(".")[1]], name)

    def test_no_two_files_draw_from_one_another(self):
        draws = {name[:-3]: {node.module.split(".")[1] for node in tree.body if isinstance(node, ast.ImportFrom)}
                 for name, tree in trees()}
        while draws:
            free = [name for name, drawn in draws.items() if not drawn & set(draws)]
            self.assertTrue(free, draws)
            draws = {name: drawn for name, drawn in draws.items() if name not in free}

    def test_pythons_own_names(self):
        for name, node in nodes():
            if isinstance(node, ast.Name) and hasattr(builtins, node.id):
                self.assertIn(node.id, BUILTINS, name)
            for bound in bound_names(node):
                if bound != "__init__":
                    self.assertFalse(hasattr(builtins, bound) or bound in UNUSED_NAMES, f"{name} {bound}")
                    self.assertFalse(bound.startswith("_"), f"{name} {bound}")

    def test_no_local_is_called_like_an_import_or_a_class(self):
        for name, tree in trees():
            taken = {alias.name for node in tree.body if isinstance(node, ast.ImportFrom) for alias in node.names}
            taken |= {node.name for node in tree.body if isinstance(node, ast.ClassDef)}
            for node in ast.walk(tree):
                if isinstance(node, (ast.Name, ast.arg)):
                    self.assertFalse(taken & set(bound_names(node)), name)

    def test_methods_and_values(self):
        methods = {part.name for name, node in nodes() if isinstance(node, ast.ClassDef)
                   for part in node.body if isinstance(part, ast.FunctionDef)}
        stored = {node.attr for name, node in nodes() if isinstance(node, ast.Attribute)
                  and isinstance(node.ctx, ast.Store)}
        self.assertFalse(methods & stored)
        own = methods | stored
        python_own = {attr for kind in (str, int, list, dict, set, bytes, tuple) for attr in dir(kind)}
        self.assertFalse((own - {"__init__"}) & python_own)
        for name, node in nodes():
            if isinstance(node, ast.Attribute):
                self.assertIn(node.attr, own | METHODS, name)
                self.assertNotIn(node.attr, UNUSED_NAMES, name)


if __name__ == "__main__":
    unittest.main()
