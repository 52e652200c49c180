"""The rules of LANGUAGE.md that can be checked file by file: a part of them, so that slips are seen early."""

import ast
import builtins
import pathlib
import re
import tokenize
import unittest

PACKAGE = pathlib.Path(__file__).resolve().parent.parent / "driveends"
LIBRARY = {
    "heapq": {"heappush", "heappop", "heapify", "heapreplace", "heappushpop"},
    "math": {"gcd", "lcm", "isqrt", "comb", "perm", "factorial"},
    "itertools": {"product", "combinations", "permutations"},
}
BUILTINS = set(
    "len range enumerate zip min max sum abs sorted reversed int str bool bytes list tuple dict set frozenset isinstance "
    "ord repr any all divmod iter next map super property staticmethod classmethod object float Exception ValueError "
    "TypeError KeyError IndexError LookupError ZeroDivisionError ArithmeticError OverflowError RuntimeError "
    "NotImplementedError AttributeError StopIteration NotImplemented".split()
)
METHODS = set(
    "append clear copy count endswith extend find get index insert isalnum isalpha isdigit islower isspace isupper items "
    "join keys ljust lower lstrip partition pop remove replace reverse rfind rjust rpartition rsplit rstrip setdefault "
    "split splitlines startswith strip update upper values zfill bit_length title capitalize swapcase casefold center "
    "expandtabs removeprefix removesuffix rindex isascii isdecimal isnumeric istitle isidentifier isprintable translate "
    "sort add discard encode decode hex".split()
)
NEVER = set("register mro elements open input law version_info with_traceback add_note".split())
NO_NAMES = NEVER | set(
    "attrgetter breakpoint builtins compile copyright credits delattr dir eval exec exit gc getattr globals hasattr help "
    "id importlib license locals methodcaller os quit setattr type vars sys".split()
)
NO_WORDS = re.compile(
    r"\b(type|typing|typing_extensions|enum|Enum|IntEnum|StrEnum|Flag|IntFlag|Generic|Protocol|ABC|ABCMeta|namedtuple|"
    r"NamedTuple|TypedDict|TYPE_CHECKING|abstractmethod)\b|dataclass|overload|contextmanager"
)
LEVEL = (ast.Import, ast.ImportFrom, ast.FunctionDef, ast.ClassDef, ast.Assign)
DECORATORS = {"property", "staticmethod", "classmethod"}


def sources():
    """Each file of the package with its text and its tree."""
    for path in sorted(PACKAGE.rglob("*.py")):
        text = path.read_text(encoding="utf-8")
        yield path.relative_to(PACKAGE.parent).as_posix(), text, ast.parse(text)


def nodes(tree, kind):
    """All nodes of a kind."""
    return [node for node in ast.walk(tree) if isinstance(node, kind)]


def docstrings(tree):
    """The constants that are docstrings."""
    places = [tree] + nodes(tree, (ast.FunctionDef, ast.ClassDef))
    return [place.body[0].value for place in places if ast.get_docstring(place) is not None]


def bound_names(tree):
    """All names that are given a meaning: variables, parameters, functions, classes, imports, caught errors."""
    names = [node.id for node in nodes(tree, ast.Name) if not isinstance(node.ctx, ast.Load)]
    names += [node.arg for node in nodes(tree, ast.arg)]
    names += [node.name for node in nodes(tree, ast.ClassDef)]
    names += [alias.name for node in nodes(tree, ast.ImportFrom) for alias in node.names]
    names += [node.name for node in nodes(tree, ast.ExceptHandler) if node.name]
    methods = [one for node in nodes(tree, ast.ClassDef) for one in node.body]
    return names + [node.name for node in nodes(tree, ast.FunctionDef) if node not in methods]


class LanguageTests(unittest.TestCase):
    def test_files(self):
        found = [path for path in PACKAGE.rglob("*") if "__pycache__" not in path.parts]
        for path in found:
            name = path.name if path.is_dir() else path.stem
            self.assertTrue(path.is_dir() or path.suffix == ".py", path)
            self.assertRegex(name, r"^([a-z][a-z0-9_]*|__init__|__main__)$")
            if path.is_dir():
                self.assertTrue((path / "__init__.py").is_file(), path)
                self.assertFalse(path.with_suffix(".py").exists(), path)
            self.assertNotIn(name, dir(builtins))
        self.assertLessEqual(len(found), 100)

    def test_characters_and_sizes(self):
        for name, text, tree in sources():
            self.assertRegex(text, r"\A[ -~\n]*\Z", name)
            lines = text.split("\n")
            self.assertLessEqual(len(lines), 400, name)
            self.assertLessEqual(max(map(len, lines)), 120, name)
            for node in nodes(tree, ast.FunctionDef):
                self.assertLessEqual(node.end_lineno - node.lineno + 1, 40, (name, node.name))

    def test_imports(self):
        for name, _, tree in sources():
            self.assertEqual(nodes(tree, ast.Import), [], name)
            for node in nodes(tree, ast.ImportFrom):
                self.assertEqual(node.level, 0, name)
                self.assertIn(node, tree.body, name)
                for alias in node.names:
                    self.assertIsNone(alias.asname, name)
                    if node.module in LIBRARY:
                        self.assertIn(alias.name, LIBRARY[node.module], name)
                    else:
                        self.assertTrue(self.defines(node.module, alias.name), (name, node.module, alias.name))

    def defines(self, module, name):
        """Whether this very file of the package defines the name."""
        path = PACKAGE.parent / (module.replace(".", "/") + ".py")
        if not module.startswith("driveends.") or not path.is_file():
            return False
        body = ast.parse(path.read_text(encoding="utf-8")).body
        defined = [node.name for node in body if isinstance(node, (ast.FunctionDef, ast.ClassDef))]
        assigned = [node.targets[0].id for node in body if isinstance(node, ast.Assign)]
        return name in defined + assigned

    def test_module_level(self):
        for name, _, tree in sources():
            for node in tree.body:
                if isinstance(node, ast.Expr):
                    self.assertIs(node, tree.body[0], name)
                    self.assertIsInstance(node.value.value, str, name)
                else:
                    self.assertIsInstance(node, LEVEL, (name, node.lineno))
            once = [node.name for node in tree.body if isinstance(node, (ast.FunctionDef, ast.ClassDef))]
            once += [node.targets[0].id for node in tree.body if isinstance(node, ast.Assign)]
            once += [alias.name for node in nodes(tree, ast.ImportFrom) for alias in node.names]
            self.assertEqual(len(once), len(set(once)), name)

    def test_statements_and_decorators(self):
        banned = (ast.Global, ast.AsyncFunctionDef, ast.AsyncFor, ast.AsyncWith, ast.Await, ast.Div)
        for name, _, tree in sources():
            self.assertEqual(nodes(tree, banned), [], name)
            for node in nodes(tree, (ast.FunctionDef, ast.ClassDef)):
                for decorator in node.decorator_list:
                    allowed = isinstance(decorator, ast.Name) and decorator.id in DECORATORS
                    self.assertTrue(allowed or getattr(decorator, "attr", "") == "setter", (name, node.name))

    def test_names(self):
        for name, _, tree in sources():
            bound = bound_names(tree)
            for one in bound:
                self.assertRegex(one, r"^(_|_?[A-Za-z][A-Za-z0-9_]*)$", name)
                self.assertNotIn(one, dir(builtins), name)
                self.assertNotIn(one, NO_NAMES, name)
            imports = [alias.name for node in nodes(tree, ast.ImportFrom) for alias in node.names]
            taken = imports + [node.name for node in nodes(tree, ast.ClassDef)]
            self.assertEqual([one for one in taken if bound.count(one) > 1], [], name)
            attributes = [node.attr for node in nodes(tree, ast.Attribute)]
            self.assertEqual([one for one in attributes if one in NEVER], [], name)

    def test_builtins_and_methods(self):
        own = set()
        for _, _, tree in sources():
            own |= {node.name for node in nodes(tree, ast.FunctionDef)}
        for name, _, tree in sources():
            used = {node.id for node in nodes(tree, ast.Name) if isinstance(node.ctx, ast.Load)}
            self.assertLessEqual(used & set(dir(builtins)), BUILTINS, name)
            called = {node.func.attr for node in nodes(tree, ast.Call) if isinstance(node.func, ast.Attribute)}
            self.assertLessEqual(called, METHODS | own | {"__init__"}, name)

    def test_words_and_strings(self):
        for name, _, tree in sources():
            free = docstrings(tree)
            for node in nodes(tree, ast.Constant):
                if isinstance(node.value, str):
                    self.assertNotIn("%", node.value, (name, node.lineno))
                    if node not in free:
                        self.assertIsNone(NO_WORDS.search(node.value), (name, node.lineno))
            with tokenize.open(PACKAGE.parent / name) as lines:
                for token in tokenize.generate_tokens(lines.readline):
                    if token.type == tokenize.NAME:
                        self.assertIsNone(NO_WORDS.search(token.string), (name, token.start))
                    if token.type == tokenize.STRING:
                        self.assertIsNone(re.search(r"\\[^nt\\'\"]", token.string), (name, token.start))

    def test_no_file_imports_itself_through_others(self):
        imports = {}
        for name, _, tree in sources():
            found = [node.module for node in nodes(tree, ast.ImportFrom) if node.module not in LIBRARY]
            imports[name[:-3].replace("/", ".")] = found
        done = set()
        while len(done) < len(imports):
            ready = [name for name in imports if name not in done and set(imports[name]) <= done]
            self.assertNotEqual(ready, [], "files import from each other")
            done.update(ready)


if __name__ == "__main__":
    unittest.main()
