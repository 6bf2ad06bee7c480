"""The rules of ../shared/LANGUAGE.md that a look at the syntax tree can decide.

A file that passes may still break a rule; a file that fails surely breaks the one that is named.
"""

import ast
import builtins
import io
import os
import re
import tokenize
import unittest

TOP = os.path.join(os.path.dirname(os.path.dirname(os.path.abspath(__file__))), "equalunlike")

LIBRARY = {
    "heapq": {"heappush", "heappop", "heapify", "heapreplace", "heappushpop"},
    "math": {"gcd", "lcm", "isqrt", "comb", "perm", "factorial"},
    "itertools": {
        "product", "combinations", "permutations", "chain", "accumulate", "pairwise", "islice", "zip_longest",
    },
    "collections": {"defaultdict"},
    "__future__": {"annotations"},
}

BUILTINS = set("""
    len range enumerate zip min max sum abs sorted reversed int str bool list tuple dict set frozenset isinstance
    ord repr any all divmod pow getattr hasattr setattr iter next map super property staticmethod classmethod object
    Exception ValueError TypeError KeyError IndexError LookupError ZeroDivisionError ArithmeticError OverflowError
    RuntimeError NotImplementedError AttributeError StopIteration NotImplemented
""".split())

DOUBLE = set("""
    __init__ __eq__ __repr__ __str__ __len__ __enter__ __exit__ __call__ __iter__ __lt__ __le__ __gt__ __ge__ __ne__
    __add__ __sub__ __mul__ __floordiv__ __mod__ __pow__ __and__ __or__ __xor__ __lshift__ __rshift__ __neg__
    __pos__ __invert__ __abs__ __bool__ __contains__ __getitem__ __setitem__
""".split())

METHODS = set("""
    append clear copy count endswith extend find get index insert isalnum isalpha isdigit islower isspace isupper
    items join keys ljust lower lstrip partition pop remove replace reverse rfind rjust rpartition rsplit rstrip
    setdefault split splitlines startswith strip update upper values zfill bit_length sort add discard
    removeprefix removesuffix rindex isascii isdecimal translate
""".split())

NO_NAMES = set("""
    register mro elements open input law version_info with_traceback add_note
""".split())

NO_WORDS = re.compile(
    r"\b(typing|typing_extensions|enum|Enum|IntEnum|StrEnum|Flag|IntFlag|Generic|Protocol|ABC|ABCMeta|namedtuple"
    r"|NamedTuple|TypedDict|TYPE_CHECKING|abstractmethod)\b|dataclass|overload|contextmanager|_wall\b|_WallAttr"
)

NO_BEGINNING = re.compile(r"_(wall|pe_|dcw_|enum_|cm_|twin_re_|lay_|law_|stub_|sre|WallAttr)")
NO_NAME_AT_ALL = re.compile(r"_(cold|tuplegetter|outside|record|written_out|member_names)[0-9_]*$")
PLAIN_NAME = re.compile(r"_?[A-Za-z][A-Za-z0-9_]*$|_$")

STATEMENTS = (
    ast.FunctionDef, ast.ClassDef, ast.Return, ast.Delete, ast.Assign, ast.AugAssign, ast.AnnAssign, ast.For,
    ast.While, ast.If, ast.With, ast.Match, ast.Raise, ast.Try, ast.Assert, ast.ImportFrom, ast.Nonlocal, ast.Expr,
    ast.Pass, ast.Break, ast.Continue,
)


def paths():
    return [
        os.path.join(folder, name)
        for folder, _, names in os.walk(TOP)
        if "__pycache__" not in folder
        for name in sorted(names)
    ]


def text_of(path):
    with open(path, encoding="utf-8", newline="") as file:
        return file.read()


def trees():
    return {path: ast.parse(text_of(path)) for path in paths()}


def module_name(path):
    return os.path.relpath(path, os.path.dirname(TOP))[:-3].replace(os.sep, ".")


def bound_names(tree):
    """Each name that is given a meaning somewhere in a file, with its line."""
    for node in ast.walk(tree):
        if isinstance(node, ast.Name) and not isinstance(node.ctx, ast.Load):
            yield node.id, node.lineno
        elif isinstance(node, (ast.FunctionDef, ast.ClassDef)):
            yield node.name, node.lineno
        elif isinstance(node, ast.arg):
            yield node.arg, node.lineno
        elif isinstance(node, ast.Attribute) and not isinstance(node.ctx, ast.Load):
            yield node.attr, node.lineno
        elif isinstance(node, ast.ExceptHandler) and node.name:
            yield node.name, node.lineno


def top_names(tree):
    """The names that are bound at module level, in order."""
    found = []
    for node in tree.body:
        if isinstance(node, ast.ImportFrom):
            found += [alias.asname or alias.name for alias in node.names]
        elif isinstance(node, (ast.FunctionDef, ast.ClassDef)):
            found.append(node.name)
        elif isinstance(node, ast.Assign):
            found += [target.id for target in node.targets]
    return found


def attributes_of(tree):
    """The names of the attributes that are assigned somewhere in a tree."""
    found = [node for node in ast.walk(tree) if isinstance(node, ast.Attribute)]
    return {node.attr for node in found if isinstance(node.ctx, ast.Store)}


def own_parts(function):
    """The nodes of a function without those of the functions in it."""
    waiting = list(function.body)
    while waiting:
        node = waiting.pop()
        yield node
        if not isinstance(node, (ast.FunctionDef, ast.Lambda)):
            waiting += ast.iter_child_nodes(node)


def is_generator(function):
    return any(isinstance(node, (ast.Yield, ast.YieldFrom)) for node in own_parts(function))


def classes_of(tree):
    return [node for node in tree.body if isinstance(node, ast.ClassDef)]


class TestFiles(unittest.TestCase):
    def test_l1_l14_names_of_files(self):
        self.assertLessEqual(len(paths()), 100)
        self.assertIn(os.path.join(TOP, "__init__.py"), paths())
        for path in paths():
            name = os.path.basename(path)
            with self.subTest(name):
                self.assertRegex(name, r"^(__init__|__main__|[a-z][a-z0-9_]*)\.py$")
                self.assertNotRegex(name, r"^(law_|test|site|conftest)")
                self.assertNotIn(name[:-3], dir(builtins))

    def test_l10_l14_characters_and_sizes(self):
        for path in paths():
            text = text_of(path)
            with self.subTest(path):
                self.assertRegex(text, r"\A[ -~\n]*\Z")
                self.assertLessEqual(len(text.splitlines()), 399)
                self.assertLessEqual(max(map(len, text.splitlines())), 120)
        for path, tree in trees().items():
            for node in ast.walk(tree):
                if isinstance(node, ast.FunctionDef):
                    self.assertLessEqual(node.end_lineno - node.lineno + 1, 40, (path, node.name))

    def test_l17_words(self):
        for path in paths():
            with self.subTest(path):
                self.assertIsNone(NO_WORDS.search(text_of(path)))


class TestImports(unittest.TestCase):
    def test_l2_l16_where_from(self):
        found = {module_name(path): tree for path, tree in trees().items()}
        for name, tree in found.items():
            for node in ast.walk(tree):
                self.assertNotIsInstance(node, ast.Import, name)
                if isinstance(node, ast.ImportFrom):
                    self.assertEqual(node.level, 0, name)
                    words = {alias.name for alias in node.names}
                    if node.module in LIBRARY:
                        self.assertLessEqual(words, LIBRARY[node.module], name)
                    else:
                        defined = [
                            part for part in found[node.module].body if not isinstance(part, ast.ImportFrom)
                        ]
                        self.assertLessEqual(words, set(top_names(ast.Module(defined, []))), name)

    def test_l16_no_circles(self):
        needs = {
            module_name(path): {node.module for node in tree.body if isinstance(node, ast.ImportFrom)}
            for path, tree in trees().items()
        }
        while needs:
            free = [name for name in needs if not needs[name] & set(needs)]
            self.assertTrue(free, needs)
            for name in free:
                del needs[name]

    def test_imports_are_used(self):
        for path, tree in trees().items():
            used = {node.id for node in ast.walk(tree) if isinstance(node, ast.Name)}
            for node in tree.body:
                if isinstance(node, ast.ImportFrom) and node.module != "__future__":
                    for alias in node.names:
                        self.assertIn(alias.name, used, path)


class TestModuleLevel(unittest.TestCase):
    def test_l3_what_stands_there(self):
        for path, tree in trees().items():
            for at, node in enumerate(tree.body):
                with self.subTest(path=path, line=node.lineno):
                    if isinstance(node, ast.Expr):
                        self.assertEqual(at, 0)
                        self.assertIsInstance(node.value.value, str)
                    elif isinstance(node, ast.Assign):
                        self.assertEqual([type(target) for target in node.targets], [ast.Name])
                    else:
                        self.assertIsInstance(node, (ast.ImportFrom, ast.FunctionDef, ast.ClassDef))

    def test_l15_one_binding(self):
        for path, tree in trees().items():
            names = top_names(tree)
            self.assertEqual(sorted(names), sorted(set(names)), path)

    def test_l15_no_local_has_the_name_of_a_class_or_import(self):
        for path, tree in trees().items():
            taken = {node.name for node in classes_of(tree)}
            for node in tree.body:
                if isinstance(node, ast.ImportFrom):
                    taken |= {alias.name for alias in node.names}
            inner = [node for node in ast.walk(tree) if isinstance(node, (ast.FunctionDef, ast.Lambda))]
            for function in inner:
                for part in ast.walk(function):
                    if isinstance(part, ast.arg):
                        self.assertNotIn(part.arg, taken, (path, part.lineno))
                    if isinstance(part, ast.Name) and isinstance(part.ctx, ast.Store):
                        self.assertNotIn(part.id, taken, (path, part.lineno))

    def test_l5_classes(self):
        for path, tree in trees().items():
            for made in classes_of(tree):
                names = [node.name for node in made.body if isinstance(node, ast.FunctionDef)]
                self.assertFalse(made.decorator_list, (path, made.name))
                for name in names:
                    if name.startswith("__"):
                        self.assertIn(name, DOUBLE, (path, made.name))


    def test_l4_l5_decorators(self):
        for path, tree in trees().items():
            methods = [part for made in classes_of(tree) for part in made.body if isinstance(part, ast.FunctionDef)]
            for node in ast.walk(tree):
                if isinstance(node, ast.FunctionDef) and node.decorator_list:
                    self.assertIn(node, methods, path)
                    words = [ast.unparse(part) for part in node.decorator_list]
                    self.assertEqual(len(words), 1, (path, node.name))
                    self.assertRegex(words[0], r"^(property|staticmethod|classmethod|[a-z_]+\.setter)$")

    def test_l5_items(self):
        methods, attributes = set(), set()
        with_items = False
        for path, tree in trees().items():
            for made in classes_of(tree):
                names = [part.name for part in made.body if isinstance(part, ast.FunctionDef)]
                methods |= set(names)
                if "__getitem__" in names:
                    self.assertIn("__iter__", names, path)
                    with_items = True
            attributes |= attributes_of(tree)
        if with_items:
            self.assertNotIn("keys", methods | attributes)
            for path in paths():
                self.assertNotRegex(text_of(path), r"\(type\)|Meta|metaclass=")

    def test_l5_l18_names_of_methods_and_attributes(self):
        kinds = {}
        for path, tree in trees().items():
            for made in classes_of(tree):
                names = [part.name for part in made.body if isinstance(part, ast.FunctionDef)]
                self.assertEqual(sorted(names), sorted(set(names)), (path, made.name))
                self.assertFalse(set(names) & attributes_of(made), (path, made.name))
                for part in made.body:
                    if isinstance(part, ast.FunctionDef) and part.name not in DOUBLE:
                        words = [ast.unparse(word) for word in part.decorator_list]
                        kinds.setdefault(part.name, set()).add(words[0] if words else "")
        attributes = set().union(*[attributes_of(tree) for tree in trees().values()])
        for name, found in kinds.items():
            self.assertEqual(len(found), 1, name)
            if found != {""}:
                self.assertNotIn(name, attributes)

    def test_l26_names_of_attributes(self):
        builtin = set().union(*[dir(kind) for kind in (str, int, list, dict, set, bytes, tuple)])
        free = {"count", "index", "title", "find", "get", "join", "lower", "upper", "split", "strip", "copy", "add"}
        for path, tree in trees().items():
            self.assertFalse(attributes_of(tree) & (builtin - free), path)


class TestSyntax(unittest.TestCase):
    def check_all(self, kind, check):
        for path, tree in trees().items():
            for node in ast.walk(tree):
                if isinstance(node, kind):
                    with self.subTest(path=path, line=getattr(node, "lineno", 0)):
                        check(node)

    def test_l6_statements(self):
        self.check_all(ast.stmt, lambda node: self.assertIsInstance(node, STATEMENTS))

    def test_l6_rows_of_exit(self):
        for path, tree in trees().items():
            for node in ast.walk(tree):
                if isinstance(node, ast.FunctionDef) and node.name == "__exit__":
                    for part in own_parts(node):
                        if isinstance(part, ast.stmt):
                            self.assertIsInstance(part, (ast.Assign, ast.If, ast.Pass, ast.Return), path)
                        if isinstance(part, ast.If):
                            self.assertRegex(ast.unparse(part.test), r"^kind is (not )?None$")
                        if isinstance(part, ast.Assign):
                            self.assertIsInstance(part.value, ast.Attribute, path)
                        self.assertNotIsInstance(part, (ast.Call, ast.Subscript), path)

    def test_l19_what_is_caught(self):
        own = {node.name for path, tree in trees().items() if path.endswith("errors.py") for node in classes_of(tree)}
        self.check_all(ast.ExceptHandler, lambda node: self.assertIn(ast.unparse(node.type), own | {"KeyError"}))

    def test_l7_no_float_and_no_division(self):
        self.check_all(ast.Constant, lambda node: self.assertNotIsInstance(node.value, (float, complex)))
        self.check_all((ast.BinOp, ast.AugAssign), lambda node: self.assertNotIsInstance(node.op, ast.Div))

    def test_l7_no_generator_expression_where_a_class_compares(self):
        def check(node):
            if isinstance(node.func, ast.Name) and node.func.id in ("any", "all", "min", "max", "sum", "sorted"):
                self.assertFalse([part for part in node.args if isinstance(part, ast.GeneratorExp)])

        self.check_all(ast.Call, check)

    def test_l8_builtins(self):
        def check(node):
            if hasattr(builtins, node.id):
                self.assertIn(node.id, BUILTINS)
                self.assertIsInstance(node.ctx, ast.Load)

        self.check_all(ast.Name, check)
        self.check_all(ast.arg, lambda node: self.assertFalse(hasattr(builtins, node.arg)))
        for path, tree in trees().items():
            for name in top_names(tree):
                self.assertFalse(hasattr(builtins, name), (path, name))

    def test_l12_l17_names(self):
        for path, tree in trees().items():
            for name, line in bound_names(tree):
                with self.subTest(path=path, line=line):
                    self.assertTrue(name in DOUBLE or PLAIN_NAME.match(name), name)
                    self.assertNotIn(name, NO_NAMES)
                    self.assertIsNone(NO_BEGINNING.match(name))
                    self.assertIsNone(NO_NAME_AT_ALL.match(name))

    def test_l17_type(self):
        for path in paths():
            for token in tokenize.generate_tokens(io.StringIO(text_of(path)).readline):
                if token.type == tokenize.NAME:
                    self.assertNotEqual(token.string, "type", (path, token.start))

    def test_l23_names_of_generators(self):
        kinds = {}
        for tree in trees().values():
            for node in ast.walk(tree):
                if isinstance(node, ast.FunctionDef):
                    kinds.setdefault(node.name, set()).add(is_generator(node))
        for name, found in kinds.items():
            self.assertEqual(len(found), 1, name)
            if True in found:
                self.assertNotIn(name, METHODS)

    def test_l25_no_sort_where_a_class_compares(self):
        def check(node):
            if isinstance(node.func, ast.Attribute):
                self.assertNotEqual(node.func.attr, "sort")

        self.check_all(ast.Call, check)

    def test_l25_l26_methods(self):
        own = set()
        for tree in trees().values():
            for node in ast.walk(tree):
                if isinstance(node, ast.FunctionDef):
                    own.add(node.name)
                elif isinstance(node, ast.Attribute) and isinstance(node.ctx, ast.Store):
                    own.add(node.attr)

        def check(node):
            if isinstance(node.func, ast.Attribute):
                self.assertIn(node.func.attr, METHODS | own)

        self.check_all(ast.Call, check)

    def test_l27_strings(self):
        def check(node):
            if isinstance(node.value, str):
                self.assertNotIn(chr(37), node.value)
                self.assertFalse(node.value.endswith(("._", ".__")))

        self.check_all(ast.Constant, check)
        for path in paths():
            for token in tokenize.generate_tokens(io.StringIO(text_of(path)).readline):
                if token.type == tokenize.STRING and not token.string.startswith("b"):
                    bare = token.string.replace("\\\\", "")
                    self.assertIsNone(re.search(r"\\[^n\\t'\"]", bare), (path, token.start))


if __name__ == "__main__":
    unittest.main()
