"""The package keeps to its small subset of Python, as far as the source alone shows it."""

import ast
import builtins
import pathlib
import re
import unittest
import warnings

PACKAGE = pathlib.Path(__file__).resolve().parent.parent / "scanpages"
FILES = sorted(path for path in PACKAGE.rglob("*") if "__pycache__" not in path.parts)
LIBRARY = {
    "heapq": {"heappush", "heappop", "heapify", "heapreplace", "heappushpop"},
    "math": {"gcd", "lcm", "isqrt", "comb", "perm", "factorial"},
    "itertools": {"product", "combinations", "permutations", "chain", "accumulate", "pairwise", "islice",
                  "zip_longest"},
    "collections": {"defaultdict"},
}
# The interactive prompt, which is used for the README, adds the underscore.
ALL_BUILTINS = set(dir(builtins)) - {"_"}
BUILTINS = set("""len range enumerate zip min max sum abs sorted reversed int str bool list tuple dict set frozenset
    isinstance ord repr any all divmod pow map iter next super property staticmethod classmethod Exception ValueError
    TypeError KeyError IndexError LookupError ZeroDivisionError ArithmeticError OverflowError RuntimeError
    NotImplementedError AttributeError StopIteration NotImplemented""".split())
METHODS = set("""append clear copy count endswith extend find get index insert isalnum isalpha isdigit islower isspace
    isupper items join keys ljust lower lstrip partition pop remove replace reverse rfind rjust rpartition rsplit
    rstrip setdefault split splitlines startswith strip update upper values zfill bit_length sort add discard title
    capitalize swapcase casefold center expandtabs removeprefix removesuffix rindex isascii isdecimal isnumeric
    istitle isidentifier isprintable __init__""".split())
SPECIAL_METHODS = set("__init__ __eq__ __repr__ __str__ __len__ __enter__ __exit__ __call__ __iter__".split())
UNUSED_NAMES = set("""register mro elements open input law version_info with_traceback add_note attrgetter breakpoint
    builtins compile copyright credits delattr dir eval exec exit gc globals help id importlib license locals
    methodcaller os quit type vars sys""".split())
UNUSED_WORDS = re.compile(r"\b(typing|typing_extensions|enum|Enum|IntEnum|StrEnum|Flag|IntFlag|Generic|Protocol|ABC|"
                          r"ABCMeta|namedtuple|NamedTuple|TypedDict|TYPE_CHECKING|abstractmethod)\b|dataclass|overload|"
                          r"contextmanager")
STATEMENTS = (ast.FunctionDef, ast.ClassDef, ast.Return, ast.Delete, ast.Assign, ast.AugAssign, ast.AnnAssign, ast.For,
              ast.While, ast.If, ast.Raise, ast.Try, ast.Assert, ast.ImportFrom, ast.Nonlocal, ast.Expr, ast.Pass,
              ast.Break, ast.Continue, ast.With, ast.Match)
CHANGING = set("append clear extend insert pop remove reverse setdefault update sort add discard".split())
MODULE_STATEMENTS = (ast.ImportFrom, ast.FunctionDef, ast.ClassDef, ast.Assign)


def parsed(path):
    """The syntax tree of a file; a warning of Python counts as an error."""
    with warnings.catch_warnings():
        warnings.simplefilter("error")
        return ast.parse(path.read_text(encoding="utf-8"))


TREES = {path: parsed(path) for path in FILES if path.suffix == ".py"}
NODES = [(path, node) for path, tree in TREES.items() for node in ast.walk(tree)]


def own_names():
    """The names of all functions and methods of the package."""
    return {node.name for _, node in NODES if isinstance(node, ast.FunctionDef)}


def module_names(tree):
    """The names that a module binds, with how often it does."""
    names = []
    for node in tree.body:
        if isinstance(node, ast.ImportFrom):
            names.extend(alias.asname or alias.name for alias in node.names)
        elif isinstance(node, (ast.FunctionDef, ast.ClassDef)):
            names.append(node.name)
        elif isinstance(node, ast.Assign):
            names.extend(target.id for target in node.targets)
    return names


def bound_names(node):
    """The names that a node binds."""
    if isinstance(node, (ast.FunctionDef, ast.ClassDef)):
        return [node.name]
    if isinstance(node, ast.arg):
        return [node.arg]
    if isinstance(node, ast.Name) and not isinstance(node.ctx, ast.Load):
        return [node.id]
    return []


class LanguageTest(unittest.TestCase):

    def refuse(self, wrong):
        """Fails with all places that are wrong: pairs of a path and a node or a line."""
        places = [f"{path.name}:{getattr(node, 'lineno', node)}" for path, node in wrong]
        self.assertEqual([], places)

    def test_files(self):
        self.assertTrue(FILES)
        for path in FILES:
            self.assertRegex(path.name, r"^[a-z][a-z0-9_]*\.py$|^__init__\.py$")
        self.assertLessEqual(len(FILES), 100)

    def test_size(self):
        for path in FILES:
            lines = path.read_text(encoding="utf-8").split("\n")
            self.assertLessEqual(len(lines) - 1, 399, path.name)
            self.refuse([(path, at) for at, line in enumerate(lines, 1) if len(line) > 120])
        long = [(path, node) for path, node in NODES if isinstance(node, ast.FunctionDef)
                and node.end_lineno - node.lineno + 1 > 40]
        self.refuse(long)

    def test_characters(self):
        for path in FILES:
            for character in path.read_text(encoding="utf-8"):
                self.assertTrue(character == "\n" or " " <= character <= "~", path.name)

    def test_imports(self):
        self.refuse([(path, node) for path, node in NODES if isinstance(node, ast.Import)])
        for path, node in NODES:
            if not isinstance(node, ast.ImportFrom):
                continue
            self.assertIn(node, TREES[path].body)
            names = {alias.name for alias in node.names}
            if node.module in LIBRARY:
                self.assertLessEqual(names, LIBRARY[node.module])
                continue
            self.assertEqual("scanpages", node.module.split(".")[0])
            source = TREES[PACKAGE.joinpath(*node.module.split(".")[1:]).with_suffix(".py")]
            defined = [name for part in source.body if not isinstance(part, ast.ImportFrom)
                       for name in module_names(ast.Module([part], []))]
            self.assertLessEqual(names, set(defined))

    def test_no_circle_of_imports(self):
        needs = {path.stem: {node.module.split(".")[-1] for node in tree.body if isinstance(node, ast.ImportFrom)}
                 for path, tree in TREES.items()}
        while needs:
            free = [name for name in needs if not needs[name] & set(needs)]
            self.assertTrue(free, sorted(needs))
            needs = {name: needs[name] for name in needs if name not in free}

    def test_module_level(self):
        for path, tree in TREES.items():
            body = tree.body[1:] if ast.get_docstring(tree) else tree.body
            self.refuse([(path, node) for node in body if not isinstance(node, MODULE_STATEMENTS)])
            names = module_names(tree)
            self.assertEqual(sorted(set(names)), sorted(names), path.name)

    def test_module_values(self):
        for path, tree in TREES.items():
            for node in tree.body:
                if isinstance(node, ast.Assign):
                    wrong = [part for part in ast.walk(node.value)
                             if isinstance(part, (ast.Name, ast.BinOp, ast.Call, ast.Attribute, ast.Subscript))]
                    self.refuse([(path, part) for part in wrong])

    def test_properties(self):
        names = {node.name for _, node in NODES if isinstance(node, ast.FunctionDef) and node.decorator_list}
        self.assertTrue(names)
        plain_names = {node.name for _, node in NODES if isinstance(node, ast.FunctionDef) and not node.decorator_list}
        self.assertFalse(names & plain_names)
        self.refuse([(path, node) for path, node in NODES if isinstance(node, ast.Attribute) and node.attr in names
                     and not isinstance(node.ctx, ast.Load)])
        for path, node in NODES:
            if isinstance(node, ast.FunctionDef) and node.decorator_list:
                self.refuse([(path, part) for part in ast.walk(node)
                             if isinstance(part, (ast.AugAssign, ast.Delete, ast.Yield))
                             or isinstance(part, ast.Attribute) and part.attr in CHANGING
                             or isinstance(part, (ast.Attribute, ast.Subscript)) and isinstance(part.ctx, ast.Store)])

    def test_functions(self):
        for path, node in NODES:
            if isinstance(node, ast.FunctionDef):
                self.assertLessEqual({ast.unparse(part) for part in node.decorator_list}, {"property"}, path.name)
                if node.name.startswith("__"):
                    self.assertIn(node.name, SPECIAL_METHODS, path.name)
            if isinstance(node, ast.ClassDef):
                self.assertEqual([], node.decorator_list)

    def test_statements(self):
        self.refuse([(path, node) for path, node in NODES
                     if isinstance(node, ast.stmt) and not isinstance(node, STATEMENTS)])

    def test_expressions(self):
        self.refuse([(path, node) for path, node in NODES if isinstance(node, ast.BinOp)
                     and isinstance(node.op, (ast.Div, ast.MatMult))])
        self.refuse([(path, node) for path, node in NODES
                     if isinstance(node, ast.Constant) and isinstance(node.value, (float, complex))])

    def test_strings(self):
        for path, node in NODES:
            if isinstance(node, ast.Constant) and isinstance(node.value, str):
                self.assertNotIn("%", node.value, path.name)
                self.assertNotIn("__", node.value, path.name)
                self.assertFalse(node.value.endswith("._"), path.name)

    def test_words(self):
        for path in TREES:
            tree = parsed(path)
            for node in ast.walk(tree):
                if isinstance(node, (ast.Module, ast.FunctionDef, ast.ClassDef)) and ast.get_docstring(node):
                    node.body[0].value.value = ""
            self.assertIsNone(UNUSED_WORDS.search(ast.unparse(tree)), path.name)
            self.assertNotRegex(path.read_text(encoding="utf-8"), r"_wall|_WallAttr", path.name)

    def test_names(self):
        for path, node in NODES:
            for name in bound_names(node):
                self.assertRegex(name, r"^(_?[A-Za-z][A-Za-z0-9_]*|_|__[a-z]+__)$", path.name)
                self.assertNotIn(name, ALL_BUILTINS | UNUSED_NAMES, path.name)
            if isinstance(node, ast.Attribute):
                self.assertNotIn(node.attr, {"register", "mro", "elements", "open", "input", "law", "args"}, path.name)
            if isinstance(node, ast.Name) and isinstance(node.ctx, ast.Load):
                self.assertNotEqual("_", node.id, path.name)

    def test_no_name_of_an_import_or_a_class_is_used_again(self):
        for path, tree in TREES.items():
            taken = {alias.asname or alias.name for node in tree.body if isinstance(node, ast.ImportFrom)
                     for alias in node.names}
            taken.update(node.name for node in tree.body if isinstance(node, ast.ClassDef))
            for function in [node for node in ast.walk(tree) if isinstance(node, ast.FunctionDef)]:
                for node in ast.walk(function):
                    if isinstance(node, (ast.arg, ast.Name)):
                        self.assertFalse(taken & set(bound_names(node)), f"{path.name}:{node.lineno}")

    def test_builtins(self):
        known = ALL_BUILTINS - BUILTINS
        self.refuse([(path, node) for path, node in NODES if isinstance(node, ast.Name) and node.id in known])

    def test_methods(self):
        allowed = METHODS | own_names()
        self.refuse([(path, node) for path, node in NODES if isinstance(node, ast.Call)
                     and isinstance(node.func, ast.Attribute) and node.func.attr not in allowed])

    def test_iterators_are_iterated_at_once(self):
        taking = {"list", "tuple", "dict", "sorted", "sum", "any", "all", "enumerate", "zip", "min", "max", "len"}
        for path, tree in TREES.items():
            fine = set()
            for node in ast.walk(tree):
                if isinstance(node, (ast.For, ast.comprehension)):
                    fine.add(node.iter)
                elif isinstance(node, ast.Call) and isinstance(node.func, ast.Name) and node.func.id in taking:
                    fine.update(node.args[:1])
                elif isinstance(node, ast.Assign):
                    fine.add(node.value)
            for node in ast.walk(tree):
                if isinstance(node, ast.Call) and isinstance(node.func, ast.Name):
                    if node.func.id in ("zip", "enumerate", "reversed", "range"):
                        self.assertIn(node, fine, f"{path.name}:{node.lineno}")

    def test_length_method(self):
        for path, node in NODES:
            if isinstance(node, ast.FunctionDef) and node.name == "__len__":
                value = node.body[-1].value
                self.assertTrue(isinstance(value, ast.Call) and value.func.id == "len", path.name)

    def test_errors_are_made_on_the_spot(self):
        for path, node in NODES:
            if isinstance(node, ast.Raise) and node.exc is not None:
                self.assertIsInstance(node.exc, ast.Call, path.name)
                self.assertIsInstance(node.exc.func, ast.Name, path.name)
                self.assertEqual([], node.exc.keywords, path.name)

    def test_powers(self):
        self.refuse([(path, node) for path, node in NODES if isinstance(node, ast.BinOp)
                     and isinstance(node.op, ast.Pow) and not isinstance(node.right, ast.Constant)])
