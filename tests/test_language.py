"""The rules of LANGUAGE.md that can be checked file by file: a part of them, so that slips are seen early."""

import ast
import builtins
import pathlib
import re
import tokenize
import unittest

PACKAGE = pathlib.Path(__file__).resolve().parent.parent / "driveends"
LIBRARY = {
    "heapq": {"heappush", "heappop", "heapify", "heapreplace", "heappushpop"},
    "math": {"gcd", "lcm", "isqrt", "comb", "perm", "factorial"},
    "itertools": {"product", "combinations", "permutations"},
}
BUILTINS = set(
    "len range enumerate zip min max sum abs sorted reversed int str bool bytes list tuple dict set frozenset isinstance "
    "ord repr any all divmod iter next map super property staticmethod classmethod object float Exception ValueError "
    "TypeError KeyError IndexError LookupError ZeroDivisionError ArithmeticError OverflowError RuntimeError "
    "NotImplementedError AttributeError StopIteration NotImplemented".split()
)
METHODS = set(
    "append clear copy count endswith extend find get index insert isalnum isalpha isdigit islower isspace isupper items "
    "join keys ljust lower lstrip partition pop remove replace reverse rfind rjust rpartition rsplit rstrip setdefault "
    "split splitlines startswith strip update upper values zfill bit_length title capitalize swapcase casefold center "
    "expandtabs removeprefix removesuffix rindex isascii isdecimal isnumeric istitle isidentifier isprintable translate "
    "sort add discard encode decode hex".split()
)
NEVER = set("register mro elements open input law version_info with_traceback add_note".split())
NO_NAMES = NEVER | set(
    "attrgetter breakpoint builtins compile copyright credits delattr dir eval exec exit gc getattr globals hasattr help "
    "id importlib license locals methodcaller os quit setattr type vars sys".split()
)
NO_WORDS = re.compile(
    r"\b(type|typing|typing_extensions|enum|Enum|IntEnum|StrEnum|Flag|IntFlag|Generic|Protocol|ABC|ABCMeta|namedtuple|"
    r"NamedTuple|TypedDict|TYPE_CHECKING|abstractmethod)\b|dataclass|overload|contextmanager"
)
LEVEL = (ast.Import, ast.ImportFrom, ast.FunctionDef, ast.ClassDef, ast.Assign)
DECORATORS = {"property", "staticmethod", "classmethod"}


def sources():
    """Each file of the package with its text and its tree."""
    for path in sorted(PACKAGE.rglob("*.py")):
        text = path.read_text(encoding="utf-8")
        yield path.relative_to(PACKAGE.parent).as_posix(), text, ast.parse(text)


def nodes(tree, kind):
    """All nodes of a kind."""
    return [node for node in ast.walk(tree) if isinstance(node, kind)]


def docstrings(tree):
    """The constants that are docstrings."""
    places = [tree] + nodes(tree, (ast.FunctionDef, ast.ClassDef))
    return [place.body[0].value for place in places if ast.get_docstring(place) is not None]


def bound_names(tree):
    """All names that are given a meaning: variables, parameters, functions, classes, imports, caught errors."""
    names = [node.id for node in nodes(tree, ast.Name) if not isinstance(node.ctx, ast.Load)]
    names += [node.arg for node in nodes(tree, ast.arg)]
    names += [node.name for node in nodes(tree, ast.ClassDef)]
    names += [alias.name for node in nodes(tree, ast.ImportFrom) for alias in node.names]
    names += [node.name for node in nodes(tree, ast.ExceptHandler) if node.name]
    methods = [one for node in nodes(tree, ast.ClassDef) for one in node.body]
    return names + [node.name for node in nodes(tree, ast.FunctionDef) if node not in methods]


class LanguageTests(unittest.TestCase):
    def test_files(self):
        found = [path for path in PACKAGE.rglob("*") if "__pycache__" not in path.parts]
        for path in found:
            name = path.name if path.is_dir() else path.stem
            self.assertTrue(path.is_dir() or path.suffix == ".py", path)
            self.assertRegex(name, r"^([a-z][a-z0-9_]*|__init__|__main__)$")
            if path.is_dir():
                self.assertTrue((path / "__init__.py").is_file(), path)
                self.assertFalse(path.with_suffix(".py").exists(), path)
            self.assertNotIn(name, dir(builtins))
        self.assertLessEqual(len(found), 100)

    def test_characters_and_sizes(self):
        for name, text, tree in sources():
            self.assertRegex(text, r"\A[ -~\n]*\Z", name)
            lines = text.split("\n")
            self.assertLessEqual(len(lines), 400, name)
            self.assertLessEqual(max(map(len, lines)), 120, name)
            for node in nodes(tree, ast.FunctionDef):
                self.assertLessEqual(node.end_lineno - node.lineno + 1, 40, (name, node.name))

    def test_imports(self):
        for name, _, tree in sources():
            self.assertEqual(nodes(tree, ast.Import), [], name)
            for node in nodes(tree, ast.ImportFrom):
                self.assertEqual(node.level, 0, name)
                self.assertIn(node, tree.body, name)
                for alias in node.names:
                    self.assertIsNone(alias.asname, name)
                    if node.module in LIBRARY:
                        self.assertIn(alias.name, LIBRARY[node.module], name)
                    else:
                        self.assertTrue(self.defines(node.module, alias.name), (name, node.module, alias.name))

    def defines(self, module, name):
        """Whether this very file of the package defines the name."""
        path = PACKAGE.parent / (module.replace(".", "/") + ".py")
        if not module.startswith("driveends.") or not path.is_file():
            return False
        body = ast.parse(path.read_text(encoding="utf-8")).body
        defined = [node.name for node in body if isinstance(node, (ast.FunctionDef, ast.ClassDef))]
        assigned = [node.targets[0].id for node in body if isinstance(node, ast.Assign)]
        return name in defined + assigned

    def test_module_level(self):
        for name, _, tree in sources():
            for node in tree.body:
                if isinstance(node, ast.Expr):
                    self.assertIs(node, tree.body[0], name)
                    self.assertIsInstance(node.value.value, str, name)
                else:
                    self.assertIsInstance(node, LEVEL, (name, node.lineno))
            once = [node.name for node in tree.body if isinstance(node, (ast.FunctionDef, ast.ClassDef))]
            once += [node.targets[0].id for node in tree.body if isinstance(node, ast.Assign)]
            once += [alias.name for node in nodes(tree, ast.ImportFrom) for alias in node.names]
            self.assertEqual(len(once), len(set(once)), name)

    def test_statements_and_decorators(self):
        banned = (ast.Global, ast.AsyncFunctionDef, ast.AsyncFor, ast.AsyncWith, ast.Await, ast.Div)
        for name, _, tree in sources():
            self.assertEqual(nodes(tree, banned), [], name)
            for node in nodes(tree, (ast.FunctionDef, ast.ClassDef)):
                for decorator in node.decorator_list:
                    allowed = isinstance(decorator, ast.Name) and decorator.id in DECORATORS
                    self.assertTrue(allowed or getattr(decorator, "attr", "") == "setter", (name, node.name))

    def test_names(self):
        for name, _, tree in sources():
            bound = bound_names(tree)
            for one in bound:
                self.assertRegex(one, r"^(_|_?[A-Za-z][A-Za-z0-9_]*)$", name)
                self.assertNotIn(one, dir(builtins), name)
                self.assertNotIn(one, NO_NAMES, name)
            imports = [alias.name for node in nodes(tree, ast.ImportFrom) for alias in node.names]
            taken = imports + [node.name for node in nodes(tree, ast.ClassDef)]
            self.assertEqual([one for one in taken if bound.count(one) > 1], [], name)
            attributes = [node.attr for node in nodes(tree, ast.Attribute)]
            self.assertEqual([one for one in attributes if one in NEVER], [], name)

    def test_builtins_and_methods(self):
        own = set()
        for _, _, tree in sources():
            own |= {node.name for node in nodes(tree, ast.FunctionDef)}
        for name, _, tree in sources():
            used = {node.id for node in nodes(tree, ast.Name) if isinstance(node.ctx, ast.Load)}
            self.assertLessEqual(used & set(dir(builtins)), BUILTINS, name)
            called = {node.func.attr for node in nodes(tree, ast.Call) if isinstance(node.func, ast.Attribute)}
            self.assertLessEqual(called, METHODS | own | {"__init__"}, name)

    def test_words_and_strings(self):
        for name, _, tree in sources():
            free = docstrings(tree)
            for node in nodes(tree, ast.Constant):
                if isinstance(node.value, str):
                    self.assertNotIn("%", node.value, (name, node.lineno))
                    if node not in free:
                        self.assertIsNone(NO_WORDS.search(node.value), (name, node.lineno))
            with tokenize.open(PACKAGE.parent / name) as lines:
                for token in tokenize.generate_tokens(lines.readline):
                    if token.type == tokenize.NAME:
                        self.assertIsNone(NO_WORDS.search(token.string), (name, token.start))
                    if token.type == tokenize.STRING:
                        self.assertIsNone(re.search(r"\\[^nt\\'\"]", token.string), (name, token.start))

    def test_expressions(self):
        for name, _, tree in sources():
            # Classes of the package have `__eq__`, so lists stand where generator expressions could.
            self.assertEqual(nodes(tree, (ast.GeneratorExp, ast.NamedExpr, ast.Match, ast.Nonlocal)), [], name)
            for node in nodes(tree, ast.BinOp):
                if isinstance(node.op, ast.Pow):
                    self.assertIsInstance(node.right, ast.Constant, (name, node.lineno))
            for node in nodes(tree, ast.Compare):
                for operator, value in zip(node.ops, node.comparators):
                    if isinstance(operator, (ast.Is, ast.IsNot)):
                        self.assertIsInstance(value, ast.Constant, (name, node.lineno))
            for node in nodes(tree, (ast.Set, ast.SetComp)):
                self.fail((name, node.lineno))
            held = [one.args[0] for one in nodes(tree, ast.Call) if getattr(one.func, "id", "") in ("sorted", "len") and one.args]
            for node in nodes(tree, ast.Call):
                if getattr(node.func, "id", "") == "set":
                    self.assertIn(node, held, (name, node.lineno))

    def test_calls_with_stars(self):
        plain = (ast.Name, ast.Constant, ast.Attribute)
        for name, _, tree in sources():
            for node in nodes(tree, ast.Call):
                stars = [at for at, one in enumerate(node.args) if isinstance(one, ast.Starred)]
                if stars:
                    behind = [getattr(one, "value", one) if isinstance(one, ast.Starred) else one for one in node.args[stars[0]:]]
                    for one in behind + [keyword.value for keyword in node.keywords]:
                        self.assertIsInstance(one, plain, (name, node.lineno))
                self.assertEqual([one for one in node.keywords if one.arg is None], [], (name, node.lineno))

    def test_only_own_errors_are_caught(self):
        own = {node.name for _, _, tree in sources() for node in nodes(tree, ast.ClassDef)}
        for name, _, tree in sources():
            for node in nodes(tree, ast.ExceptHandler):
                caught = node.type.elts if isinstance(node.type, ast.Tuple) else [node.type]
                self.assertLessEqual({one.id for one in caught}, own, (name, node.lineno))
            for node in nodes(tree, ast.Raise):
                self.assertIsInstance(node.exc, ast.Call, (name, node.lineno))
                self.assertIsInstance(node.exc.func, ast.Name, (name, node.lineno))

    def test_generators_have_names_of_their_own(self):
        names, generators = [], []
        for _, _, tree in sources():
            for node in nodes(tree, ast.FunctionDef):
                names.append(node.name)
                if nodes(node, (ast.Yield, ast.YieldFrom)):
                    generators.append(node.name)
        self.assertEqual([name for name in generators if names.count(name) > 1 or name in METHODS], [])

    def test_names_of_methods_attributes_and_properties(self):
        methods, attributes, properties, settable = set(), set(), set(), set()
        for _, _, tree in sources():
            for holder in nodes(tree, ast.ClassDef):
                for node in nodes(holder, ast.FunctionDef):
                    decorators = {getattr(one, "id", "") or one.attr for one in node.decorator_list}
                    if "setter" in decorators:
                        settable.add(node.name)
                    (properties if decorators & {"property", "setter"} else methods).add(node.name)
            attributes |= {
                node.attr for node in nodes(tree, ast.Attribute) if isinstance(node.ctx, ast.Store)
            }
        self.assertEqual(methods & properties, set())
        self.assertEqual(methods & attributes, set())
        self.assertLessEqual(attributes & properties, settable)

    def test_shapes_of_double_underscore_methods(self):
        for name, _, tree in sources():
            for holder in nodes(tree, ast.ClassDef):
                for node in nodes(holder, ast.FunctionDef):
                    returned = [one.value for one in nodes(node, ast.Return)]
                    if node.name == "__init__":
                        self.assertEqual(returned, [], (name, holder.name))
                    if node.name == "__len__":
                        self.assertEqual([one.func.id for one in returned], ["len"], (name, holder.name))
                    if node.name == "__str__":
                        for one in returned:
                            shape = isinstance(one, ast.JoinedStr) or one.func.id == "str"
                            self.assertTrue(shape, (name, holder.name))

    def test_double_underscore_methods_assign_only_lists(self):
        changes = (ast.Assign, ast.AugAssign, ast.AnnAssign, ast.Delete, ast.For, ast.With)
        for name, _, tree in sources():
            for node in nodes(tree, ast.FunctionDef):
                if node.name in ("__eq__", "__repr__", "__str__", "__len__"):
                    self.assertEqual(nodes(node, changes), [], (name, node.name))

    def test_rows_of_exit(self):
        """L6: only attributes are assigned, and nothing is called."""
        for name, _, tree in sources():
            for node in nodes(tree, ast.FunctionDef):
                if node.name == "__exit__":
                    self.assertEqual(nodes(node, (ast.Call, ast.Subscript, ast.For, ast.While, ast.Return)), [], name)
                    used = {one.id for one in nodes(node, ast.Name)}
                    self.assertLessEqual(used, {"self", "kind"}, name)
                    for one in nodes(node, ast.Assign):
                        self.assertIsInstance(one.targets[0], ast.Attribute, name)

    def test_loops_do_not_change_what_they_iterate_over(self):
        changing = {"append", "clear", "extend", "insert", "pop", "remove", "reverse", "setdefault", "update"}
        for name, _, tree in sources():
            for node in nodes(tree, ast.For):
                inside = {one.id for one in nodes(node.iter, ast.Name)}
                for one in nodes(ast.Module(node.body, []), ast.Call):
                    if isinstance(one.func, ast.Attribute) and one.func.attr in changing:
                        self.assertNotIn(getattr(one.func.value, "id", ""), inside, (name, one.lineno))
                for one in nodes(ast.Module(node.body, []), ast.Subscript):
                    if not isinstance(one.ctx, ast.Load):
                        self.assertNotIn(getattr(one.value, "id", ""), inside, (name, one.lineno))

    def test_no_file_imports_itself_through_others(self):
        imports = {}
        for name, _, tree in sources():
            found = [node.module for node in nodes(tree, ast.ImportFrom) if node.module not in LIBRARY]
            imports[name[:-3].replace("/", ".")] = found
        done = set()
        while len(done) < len(imports):
            ready = [name for name in imports if name not in done and set(imports[name]) <= done]
            self.assertNotEqual(ready, [], "files import from each other")
            done.update(ready)


if __name__ == "__main__":
    unittest.main()
