"""The package keeps to LANGUAGE.md, as far as the rows of its files show that plainly."""

import ast
import builtins
import pathlib
import re
import unittest

from kindhall.closing import tell_all, due_at_once, due_behind
from kindhall.ledger import Ledger
from kindhall.lookup import Lookup
from kindhall.thoughts import add_parts
from tests.samples import towers

FOLDER = pathlib.Path(__file__).resolve().parent.parent / "kindhall"
FILES = sorted(path for path in FOLDER.rglob("*") if "__pycache__" not in path.parts)
SOURCES = {path.relative_to(FOLDER.parent).as_posix(): path.read_text("utf-8") for path in FILES if path.is_file()}
TREES = {name: ast.parse(source) for name, source in SOURCES.items() if name.endswith(".py")}

BUILTINS = """len range enumerate zip min max sum abs sorted reversed int str bool bytes list tuple dict set frozenset
isinstance ord repr any all divmod Exception ValueError TypeError KeyError IndexError LookupError ZeroDivisionError
ArithmeticError OverflowError RuntimeError NotImplementedError AttributeError StopIteration NotImplemented super property
staticmethod classmethod""".split()
METHODS = """append clear copy count endswith extend find get index insert isalnum isalpha isdigit islower isspace isupper
items join keys ljust lower lstrip partition pop remove replace reverse rfind rjust rpartition rsplit rstrip setdefault split
splitlines startswith strip update upper values zfill bit_length title capitalize swapcase casefold center expandtabs
removeprefix removesuffix rindex isascii isdecimal isnumeric istitle isidentifier isprintable translate sort add
discard""".split()
DUNDER_METHODS = """__init__ __eq__ __repr__ __str__ __len__ __enter__ __exit__ __call__ __iter__""".split()
BARRED_WORDS = """type typing typing_extensions enum Enum IntEnum StrEnum Flag IntFlag Generic Protocol ABC ABCMeta namedtuple
NamedTuple TypedDict TYPE_CHECKING abstractmethod""".split()
BARRED_NAMES = """register mro elements open input version_info with_traceback add_note attrgetter breakpoint builtins compile
copyright credits delattr dir eval exec exit gc getattr globals hasattr help id importlib license locals methodcaller os quit
setattr type vars sys chr format format_map""".split()
BARRED_NODES = (ast.Global, ast.AsyncFunctionDef, ast.AsyncFor, ast.AsyncWith, ast.Await, ast.Import, ast.Div)
# The package makes do with these sorts of code; whoever adds one keeps to the rules about it and tests them here.
USED_NODES = """Add And Assign Attribute AugAssign BinOp BoolOp Call ClassDef Compare Constant Dict DictComp Eq Expr For
FormattedValue FunctionDef Gt GtE If IfExp ImportFrom In Is IsNot JoinedStr List ListComp Load Lt LtE Module Mult Name Not
NotEq NotIn Or Raise Return Slice Store Sub Subscript Tuple USub UnaryOp While alias arg arguments comprehension
keyword""".split()
MODIFYING = "append clear extend insert pop remove reverse setdefault sort update".split()
AT_ONCE = "zip enumerate reversed range".split()
TAKERS = "list tuple dict sorted sum any all enumerate zip bytes min max".split()


def nodes(*kinds):
    """All nodes of these kinds in the package, each with its file."""
    return [(name, node) for name, tree in TREES.items() for node in ast.walk(tree) if isinstance(node, kinds)]


def bound_names():
    """All names that the package binds or passes, each with its file."""
    found = [(name, node.id) for name, node in nodes(ast.Name) if isinstance(node.ctx, ast.Store)]
    found += [(name, node.arg) for name, node in nodes(ast.arg, ast.keyword)]
    found += [(name, node.name) for name, node in nodes(ast.FunctionDef, ast.ClassDef)]
    return found + [(name, node.attr) for name, node in nodes(ast.Attribute)]


def module_names(tree):
    """The names that a file binds at module level, as often as it binds them."""
    found = []
    for row in tree.body:
        if isinstance(row, (ast.FunctionDef, ast.ClassDef)):
            found.append(row.name)
        elif isinstance(row, ast.Assign):
            found += [target.id for target in row.targets]
        elif isinstance(row, ast.ImportFrom):
            found += [alias.asname or alias.name for alias in row.names]
    return found


def with_parents(*kinds):
    """All nodes of these kinds in the package, each with its file and the node right around it."""
    return [
        (name, node, around)
        for name, tree in TREES.items()
        for around in ast.walk(tree)
        for node in ast.iter_child_nodes(around)
        if isinstance(node, kinds)
    ]


def called(node):
    """The name of the function or method that is called, where a name is."""
    if not isinstance(node, ast.Call):
        return None
    return getattr(node.func, "id", None) or getattr(node.func, "attr", None)


def tables():
    """The names at module level that stand for lists and dicts."""
    rows = [row for tree in TREES.values() for row in tree.body if isinstance(row, ast.Assign)]
    return {row.targets[0].id for row in rows if isinstance(row.value, (ast.Dict, ast.List))}


def attributes(*contexts):
    """The attributes of the package in these contexts that are not called."""
    called_ones = {id(node.func) for name, node in nodes(ast.Call)}
    return {
        node.attr for name, node in nodes(ast.Attribute)
        if isinstance(node.ctx, contexts) and id(node) not in called_ones
    }


def file_of(module):
    return module.replace(".", "/") + ".py"


def nesting(key):
    """How deep tuples are nested in a key."""
    return 1 + max([nesting(part) for part in key], default=0) if isinstance(key, tuple) else 0


class Language(unittest.TestCase):
    def test_files(self):
        self.assertIn("kindhall/__init__.py", SOURCES)
        for name in SOURCES:
            self.assertRegex(name, r"\Akindhall/([a-z][a-z0-9_]*|__init__)\.py\Z")

    def test_sizes_and_signs(self):
        for name, source in SOURCES.items():
            rows = source.split("\n")
            self.assertLessEqual(len(rows), 400, name)
            for row in rows:
                self.assertLessEqual(len(row), 120, (name, row))
            self.assertRegex(source, r"\A[ -~\n]*\Z", name)
        for name, node in nodes(ast.FunctionDef):
            self.assertLessEqual(node.end_lineno - node.lineno + 1, 40, (name, node.name))

    def test_barred_words(self):
        for name, source in SOURCES.items():
            self.assertEqual([word for word in re.findall(r"\w+", source) if word in BARRED_WORDS], [], name)
            self.assertNotRegex(source, "dataclass|overload|contextmanager", name)

    def test_rows_at_module_level(self):
        for name, tree in TREES.items():
            for place, row in enumerate(tree.body):
                if place == 0:
                    self.assertIsNotNone(ast.get_docstring(tree), name)
                else:
                    self.assertIsInstance(row, (ast.ImportFrom, ast.FunctionDef, ast.ClassDef, ast.Assign), name)
            found = module_names(tree)
            self.assertEqual(len(found), len(set(found)), name)

    def test_imports(self):
        for name, tree in TREES.items():
            behind_imports = False
            for row in tree.body[1:]:
                if not isinstance(row, ast.ImportFrom):
                    behind_imports = True
                    continue
                self.assertFalse(behind_imports, name)
                self.assertEqual(row.level, 0, name)
                self.assertTrue(row.module.startswith("kindhall."), name)
                defined = [found for found in TREES[file_of(row.module)].body if not isinstance(found, ast.ImportFrom)]
                for alias in row.names:
                    self.assertIn(alias.name, module_names(ast.Module(defined, [])), name)
        for name, node in nodes(ast.ImportFrom):
            self.assertIn(node, TREES[name].body)

    def test_no_ring_of_imports(self):
        waiting = {
            name: {file_of(row.module) for row in tree.body if isinstance(row, ast.ImportFrom)}
            for name, tree in TREES.items()
        }
        self.assertEqual(waiting["kindhall/__init__.py"], set())
        while waiting:
            free = [name for name, needs in waiting.items() if not needs & set(waiting)]
            self.assertTrue(free, waiting)
            for name in free:
                del waiting[name]

    def test_barred_nodes(self):
        self.assertEqual(nodes(*BARRED_NODES), [])
        for name, node in nodes(ast.FunctionDef):
            self.assertEqual(node.args.posonlyargs, [], name)
        for name, node in nodes(ast.Compare):
            for sign, side in zip(node.ops, node.comparators):
                if isinstance(sign, (ast.Is, ast.IsNot)):
                    self.assertTrue(isinstance(side, ast.Constant) and side.value in (None, True, False), name)

    def test_names(self):
        for name, found in bound_names():
            self.assertNotIn(found, BARRED_NAMES, name)
            if found not in DUNDER_METHODS:
                self.assertRegex(found, r"\A[A-Za-z][A-Za-z0-9_]*\Z", name)
        taken = set(dir(builtins))
        for name, node in nodes(ast.Name):
            if node.id in taken:
                self.assertIsInstance(node.ctx, ast.Load, (name, node.lineno))
                self.assertIn(node.id, BUILTINS, (name, node.lineno))
        for name, node in nodes(ast.arg):
            self.assertNotIn(node.arg, taken, name)
        for name, tree in TREES.items():
            self.assertFalse(taken & set(module_names(tree)), name)

    def test_methods(self):
        classes = [node for name, node in nodes(ast.ClassDef)]
        own = {row.name for node in classes for row in node.body if isinstance(row, ast.FunctionDef)}
        for name, node in nodes(ast.Call):
            if isinstance(node.func, ast.Attribute):
                self.assertIn(node.func.attr, own | set(METHODS), (name, node.lineno))

    def test_numbers_and_strings(self):
        for name, node in nodes(ast.Constant):
            self.assertIsInstance(node.value, (int, str, bytes, bool, type(None), type(...)), name)
            if isinstance(node.value, str):
                self.assertNotIn("%", node.value, name)
                self.assertNotRegex(node.value, r"\._{1,2}\Z", name)

    def test_keys_of_deep_thoughts(self):
        for thought, text in towers(40):
            places = {}
            add_parts(thought, [], places)
            self.assertLessEqual(max(nesting(key) for key in places), 8, text)

    def test_keys_of_a_closing(self):
        for thought, text in towers(40):
            ledger = Ledger()
            asked = ledger.number(thought)
            lookup = Lookup([(1, ("every", ("any",), thought)), (2, ("thing", "x", thought)), (3, ("runs", "r"))], ledger)
            tell_all(ledger, due_at_once(lookup, asked))
            at = 0
            while at < len(ledger.facts):
                tell_all(ledger, due_behind(ledger, lookup, at))
                at += 1
            self.assertGreater(len(ledger.log), 40)
            for held in list(vars(ledger).values()) + list(vars(lookup).values()):
                if isinstance(held, dict):
                    self.assertLessEqual(max([nesting(key) for key in held], default=0), 8, text)

    def test_sorts_of_code(self):
        self.assertEqual({type(node).__name__ for name, node in nodes(ast.AST)} - set(USED_NODES), set())

    def test_local_names(self):
        for name, tree in TREES.items():
            taken = {alias.asname or alias.name for row in tree.body if isinstance(row, ast.ImportFrom) for alias in row.names}
            taken |= {row.name for row in tree.body if isinstance(row, (ast.ClassDef, ast.FunctionDef))}
            found = {node.arg for node in ast.walk(tree) if isinstance(node, ast.arg)}
            found |= {node.id for node in ast.walk(tree) if isinstance(node, ast.Name) and isinstance(node.ctx, ast.Store)}
            self.assertEqual(found & taken, set(), name)

    def test_classes(self):
        methods = [row.name for name, node in nodes(ast.ClassDef) for row in node.body if isinstance(row, ast.FunctionDef)]
        taken = set(METHODS) | {found for kind in (str, int, list, dict, set, bytes, tuple) for found in dir(kind)}
        self.assertEqual(attributes(ast.Load, ast.Store) & set(methods), set())
        self.assertEqual(attributes(ast.Load) - attributes(ast.Store), set())
        self.assertEqual((attributes(ast.Store) | set(methods) - set(DUNDER_METHODS)) & taken, set())
        self.assertFalse({found for found in attributes(ast.Load, ast.Store) if found.startswith("_")})

    def test_sets_are_sorted_at_once(self):
        for name, node, around in with_parents(ast.Call):
            if called(node) == "set":
                self.assertIn(called(around), ("sorted", "len"), (name, node.lineno))

    def test_iterated_at_once(self):
        for name, node, around in with_parents(ast.Call):
            if called(node) in AT_ONCE + ["items", "keys", "values"]:
                looped = isinstance(around, (ast.For, ast.comprehension)) and around.iter == node
                self.assertTrue(looped or called(around) in TAKERS, (name, node.lineno))

    def test_loops_leave_what_they_go_through(self):
        for name, loop in nodes(ast.For):
            through = {ast.unparse(node) for node in ast.walk(loop.iter) if isinstance(node, (ast.Name, ast.Attribute))}
            for node in [node for row in loop.body for node in ast.walk(row)]:
                if called(node) in MODIFYING and isinstance(node.func, ast.Attribute):
                    self.assertNotIn(ast.unparse(node.func.value), through, (name, node.lineno))
                if isinstance(node, ast.Subscript) and isinstance(node.ctx, ast.Store):
                    self.assertNotIn(ast.unparse(node.value), through, (name, node.lineno))

    def test_tables_are_only_read(self):
        found = tables()
        for name, node, around in with_parents(ast.Name):
            if node.id in found and isinstance(node.ctx, ast.Load):
                read = isinstance(around, ast.Subscript) and isinstance(around.ctx, ast.Load) or isinstance(around, ast.Compare)
                copied = called(around) in ("list", "dict")
                self.assertTrue(read or copied, (name, node.lineno))
        # A function out of a table is called by a name of its own.
        for name, node in nodes(ast.Call):
            self.assertIsInstance(node.func, (ast.Name, ast.Attribute), (name, node.lineno))

    def test_calls_pass_what_is_taken(self):
        takes = {row.name: row.args for tree in TREES.values() for row in tree.body if isinstance(row, ast.FunctionDef)}
        for name, node in nodes(ast.Call):
            if isinstance(node.func, ast.Name) and node.func.id in takes:
                taken = takes[node.func.id]
                given = len(node.args) + len(node.keywords)
                self.assertTrue(len(taken.args) - len(taken.defaults) <= given <= len(taken.args), (name, node.lineno))

    def test_handlers(self):
        for name, node in nodes(ast.ExceptHandler):
            self.assertIsNotNone(node.type, name)
            self.assertFalse({found.id for found in ast.walk(node.type) if isinstance(found, ast.Name)}
                             & {"Exception", "BaseException", "TypeError"}, name)
        for name, node in nodes(ast.Raise):
            self.assertTrue(node.exc is None or isinstance(node.exc, ast.Call) and isinstance(node.exc.func, ast.Name), name)


if __name__ == "__main__":
    unittest.main()
