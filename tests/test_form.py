"""The form of the package: a part of the rules of shared/LANGUAGE.md that can be checked by reading."""

import ast
import builtins
import re
import unittest
from pathlib import Path

PACKAGE = Path(__file__).resolve().parent.parent / "stampsheets"

BUILTINS = set("""len range enumerate zip min max sum abs sorted reversed int str bool list tuple dict set isinstance
    repr any all divmod property staticmethod iter ValueError""".split())

STATEMENTS = (
    ast.Module, ast.FunctionDef, ast.ClassDef, ast.Assign, ast.AugAssign, ast.If, ast.While, ast.For, ast.Return,
    ast.Break, ast.Continue, ast.Pass, ast.Raise, ast.Expr, ast.ImportFrom, ast.Yield, ast.YieldFrom, ast.Try,
    ast.With,
)

METHODS_OF_VALUES = set("""append clear copy count endswith extend find get index insert isalnum isalpha isdigit
    islower isspace isupper items join keys ljust lower lstrip partition pop remove replace reverse rfind rjust
    rpartition rsplit rstrip setdefault split splitlines startswith strip update upper values zfill
    bit_length""".split())

CHANGES = "append clear extend insert pop remove reverse setdefault sort update add discard".split()

MAKE_ITERATORS = "range zip enumerate reversed items keys values map".split()

ITERATED_BY = "list tuple dict sorted sum any all enumerate zip min max reversed".split()

DUNDERS = set("""__init__ __eq__ __len__ __iter__ __contains__ __or__ __and__ __invert__ __add__ __sub__ __mul__
    __call__ __enter__ __exit__""".split())

UNUSED_WORDS = """register mro elements open input law version_info with_traceback add_note attrgetter breakpoint
    builtins compile copyright credits delattr dir eval exec exit gc getattr globals hasattr help id importlib license
    locals methodcaller os quit setattr super type vars sys""".split()

WORDS_IN_NO_STRING = """typing typing_extensions enum Enum IntEnum StrEnum Flag Generic Protocol ABC ABCMeta
    namedtuple NamedTuple TypedDict TYPE_CHECKING abstractmethod dataclass overload contextmanager""".split()


def files():
    return sorted(PACKAGE.glob("*.py"))


def trees():
    return [(path, ast.parse(path.read_text(encoding="ascii"))) for path in files()]


def bound_names(function):
    """Return the parameters and local variables of a function, those of what is nested in it too."""
    names = set()
    for node in ast.walk(function):
        if isinstance(node, ast.arg):
            names.add(node.arg)
        elif isinstance(node, ast.Name) and isinstance(node.ctx, ast.Store):
            names.add(node.id)
    return names


def functions_in(tree):
    return [node for node in ast.walk(tree) if isinstance(node, ast.FunctionDef)]


def docstrings(tree):
    found = []
    for node in ast.walk(tree):
        if isinstance(node, (ast.Module, ast.FunctionDef, ast.ClassDef)) and ast.get_docstring(node) is not None:
            found.append(node.body[0].value)
    return found


def leaf_names(node):
    """Return the names that a value may be, also through a choice or a call that only passes it on."""
    if isinstance(node, ast.Name):
        return {node.id}
    if isinstance(node, ast.Attribute):
        return {node.attr}
    if isinstance(node, ast.IfExp):
        return leaf_names(node.body) | leaf_names(node.orelse)
    if isinstance(node, ast.BoolOp):
        return set().union(*[leaf_names(value) for value in node.values])
    if isinstance(node, ast.Call):
        if isinstance(node.func, ast.Name) and node.func.id in ("enumerate", "zip", "reversed", "iter"):
            return set().union(set(), *[leaf_names(one) for one in node.args])
        if isinstance(node.func, ast.Attribute) and node.func.attr in ("items", "keys", "values"):
            return leaf_names(node.func.value)
    return set()


def other_names(function, names):
    """Return these names and all that plain assignments of the function make names of the same value."""
    couples = []
    for node in ast.walk(function):
        if isinstance(node, ast.Assign):
            for target in node.targets:
                if isinstance(target, (ast.Name, ast.Attribute)):
                    couples.extend((a, b) for a in leaf_names(target) for b in leaf_names(node.value))
    names = set(names)
    for _ in couples:
        for couple in couples:
            if names & set(couple):
                names |= set(couple)
    return names


def changed_names(nodes):
    """Return the names of what is changed in these nodes, not only given another value."""
    found = set()
    for top in nodes:
        for node in ast.walk(top):
            if isinstance(node, ast.Call) and isinstance(node.func, ast.Attribute) and node.func.attr in CHANGES:
                found |= leaf_names(node.func.value)
            if isinstance(node, ast.Subscript) and isinstance(node.ctx, (ast.Store, ast.Del)):
                found |= leaf_names(node.value)
            if isinstance(node, ast.AugAssign):
                found |= leaf_names(node.target)
    return found


def loops_that_change(tree):
    """Return the lines of the loops that change what they walk, by any of its names (L23)."""
    lines = []
    for function in functions_in(tree):
        for node in ast.walk(function):
            if isinstance(node, ast.For):
                if other_names(function, leaf_names(node.iter)) & changed_names(node.body):
                    lines.append(node.lineno)
    return lines


class FormTest(unittest.TestCase):
    def test_folder(self):
        for path in PACKAGE.iterdir():
            if path.name != "__pycache__":
                self.assertRegex(path.name, r"\A[a-z_]+\.py\Z")
                self.assertNotIn(path.stem, dir(builtins))
        self.assertLessEqual(len(files()), 100)

    def test_lines(self):
        for path in files():
            text = path.read_text(encoding="ascii")
            self.assertRegex(text, r"\A[\n -~]*\Z", path.name)
            lines = text.splitlines()
            self.assertLessEqual(len(lines), 399, path.name)
            self.assertLessEqual(max(len(line) for line in lines), 120, path.name)

    def test_functions_are_short(self):
        for path, tree in trees():
            for function in functions_in(tree):
                self.assertLessEqual(function.end_lineno - function.lineno + 1, 40, (path.name, function.name))

    def test_statements_and_expressions(self):
        for path, tree in trees():
            for node in ast.walk(tree):
                where = (path.name, getattr(node, "lineno", 0))
                if isinstance(node, ast.stmt):
                    self.assertIsInstance(node, STATEMENTS, where)
                self.assertNotIsInstance(node, (ast.GeneratorExp, ast.SetComp, ast.Set, ast.JoinedStr, ast.Div,
                                                ast.Starred, ast.NamedExpr, ast.Pow, ast.AnnAssign), where)
                if isinstance(node, ast.Constant):
                    self.assertIsInstance(node.value, (str, int, type(None)), where)
                if isinstance(node, (ast.Is, ast.IsNot)):
                    continue
                if isinstance(node, ast.Compare):
                    for sign, right in zip(node.ops, node.comparators):
                        if isinstance(sign, (ast.Is, ast.IsNot)):
                            self.assertIsInstance(right, ast.Constant, where)

    def test_strings(self):
        for path, tree in trees():
            told = docstrings(tree)
            for node in ast.walk(tree):
                if isinstance(node, ast.Constant) and isinstance(node.value, str) and node not in told:
                    self.assertNotIn("%", node.value, path.name)

    def test_what_a_loop_walks_is_not_changed_in_it(self):
        for path, tree in trees():
            self.assertEqual(loops_that_change(tree), [], path.name)

    def test_loops_that_change_what_they_walk_are_found(self):
        loop = "def f(xs, y):\n    rows = [1]\n    more = []\n    for x in {}:\n        {}\n{}"
        for walked, change, behind in [
            ("rows", "rows.append(x)", ""), ("rows", "more.append(x)", "    rows = more"),
            ("enumerate(rows)", "rows[0] = x", ""), ("y.rows", "y.rows.pop()", ""),
            ("rows if y else more", "more += [x]", ""), ("y.items()", "del y[x]", ""),
        ]:
            self.assertEqual(loops_that_change(ast.parse(loop.format(walked, change, behind))), [4], walked)
        for walked, change, behind in [
            ("list(rows)", "rows.append(x)", ""), ("rows", "more.append(x)", "    rows = list(more)"),
            ("range(len(rows))", "rows[x] = 0", ""),
        ]:
            self.assertEqual(loops_that_change(ast.parse(loop.format(walked, change, behind))), [], walked)

    def test_module_level(self):
        for path, tree in trees():
            names = []
            for node in tree.body:
                if isinstance(node, ast.Assign):
                    self.assertEqual(len(node.targets), 1)
                    names.append(node.targets[0].id)
                elif isinstance(node, ast.ImportFrom):
                    names.extend(alias.name for alias in node.names)
                elif isinstance(node, (ast.FunctionDef, ast.ClassDef)):
                    names.append(node.name)
                else:
                    self.assertIsInstance(node, ast.Expr, path.name)
            self.assertEqual(len(names), len(set(names)), path.name)

    def test_imports(self):
        needed = {}
        for path, tree in trees():
            needed[path.stem] = []
            used = {node.id for node in ast.walk(tree) if isinstance(node, ast.Name)}
            for node in ast.walk(tree):
                if isinstance(node, ast.ImportFrom) and node.module == "math":
                    self.assertEqual([alias.name for alias in node.names], ["gcd"], path.name)
                elif isinstance(node, ast.ImportFrom):
                    self.assertRegex(node.module, r"\Astampsheets\.[a-z]+\Z")
                    stem = node.module.partition(".")[2]
                    needed[path.stem].append(stem)
                    defined = ast.parse((PACKAGE / (stem + ".py")).read_text())
                    names = [getattr(one, "name", None) for one in defined.body]
                    names += [one.targets[0].id for one in defined.body if isinstance(one, ast.Assign)]
                    for alias in node.names:
                        self.assertIsNone(alias.asname)
                        self.assertIn(alias.name, names, path.name)
                        self.assertIn(alias.name, used, path.name)
        while needed:
            last = [stem for stem, stems in needed.items() if not set(stems) & set(needed)]
            self.assertTrue(last, needed)
            for stem in last:
                del needed[stem]

    def test_names(self):
        for path, tree in trees():
            told = docstrings(tree)
            taken = [alias.name for node in tree.body if isinstance(node, ast.ImportFrom) for alias in node.names]
            taken += [node.name for node in tree.body if isinstance(node, (ast.ClassDef, ast.FunctionDef))]
            for function in functions_in(tree):
                for name in bound_names(function):
                    where = (path.name, function.name, name)
                    self.assertNotIn(name, dir(builtins), where)
                    self.assertNotIn(name, taken, where)
                    self.assertNotIn(name, UNUSED_WORDS, where)
                if function.name.startswith("__"):
                    self.assertIn(function.name, DUNDERS)
                else:
                    self.assertNotIn(function.name, dir(builtins))
                    self.assertNotIn(function.name, UNUSED_WORDS)
            for node in ast.walk(tree):
                if isinstance(node, ast.Name) and isinstance(node.ctx, ast.Load) and hasattr(builtins, node.id):
                    self.assertIn(node.id, BUILTINS, (path.name, node.lineno))
                if isinstance(node, ast.Constant) and isinstance(node.value, str) and node not in told:
                    for word in re.findall(r"\w+", node.value):
                        self.assertNotIn(word, WORDS_IN_NO_STRING, path.name)

    def test_decorators_and_defaults(self):
        for path, tree in trees():
            for node in ast.walk(tree):
                if isinstance(node, (ast.FunctionDef, ast.ClassDef)):
                    for decorator in node.decorator_list:
                        if isinstance(decorator, ast.Attribute):
                            self.assertEqual(ast.unparse(decorator), node.name + ".setter")
                        else:
                            self.assertIn(decorator.id, ("property", "staticmethod"), path.name)
                if isinstance(node, ast.arguments):
                    for default in node.defaults + [one for one in node.kw_defaults if one is not None]:
                        self.assertIsInstance(default, ast.Constant)
                    self.assertIsNone(node.vararg)
                    self.assertIsNone(node.kwarg)

    def test_methods_that_are_called(self):
        own = {function.name for _, tree in trees() for function in functions_in(tree)}
        for path, tree in trees():
            for node in ast.walk(tree):
                if isinstance(node, ast.Call) and isinstance(node.func, ast.Attribute):
                    self.assertIn(node.func.attr, METHODS_OF_VALUES | own, (path.name, node.lineno))

    def test_what_makes_an_iterator_is_iterated_at_once(self):
        for path, tree in trees():
            generators = {f.name for _, t in trees() for f in functions_in(t) if self.yields(f)}
            held = [node for node in ast.walk(tree) if isinstance(node, (ast.Assign, ast.Return))]
            for node in held:
                call = node.value
                if isinstance(call, ast.Call):
                    name = getattr(call.func, "id", getattr(call.func, "attr", None))
                    self.assertNotIn(name, MAKE_ITERATORS)
                    self.assertNotIn(name, generators, (path.name, node.lineno))

    def test_what_makes_an_iterator_is_not_passed_on(self):
        for path, tree in trees():
            for node in ast.walk(tree):
                if isinstance(node, ast.Call) and getattr(node.func, "id", None) not in ITERATED_BY:
                    for one in node.args + [keyword.value for keyword in node.keywords]:
                        if isinstance(one, ast.Call):
                            name = getattr(one.func, "id", getattr(one.func, "attr", None))
                            self.assertNotIn(name, MAKE_ITERATORS, (path.name, node.lineno))

    def yields(self, function):
        return any(isinstance(node, (ast.Yield, ast.YieldFrom)) for node in ast.walk(function))

    def test_own_errors_alone_are_caught(self):
        for path, tree in trees():
            for node in ast.walk(tree):
                if isinstance(node, ast.ExceptHandler):
                    self.assertEqual(ast.unparse(node.type), "StampError", path.name)
                if isinstance(node, ast.Try):
                    self.assertEqual(node.finalbody, [])

    def test_rows_of_exit(self):
        """An exit gives attributes only names, attributes and literals, and asks nothing but `kind is None` (L6)."""
        exits = [f for _, tree in trees() for f in functions_in(tree) if f.name == "__exit__"]
        self.assertEqual(len(exits), 2)
        for function in exits:
            for node in ast.walk(function):
                if isinstance(node, ast.stmt) and node is not function:
                    self.assertIsInstance(node, (ast.Assign, ast.If))
                if isinstance(node, ast.If):
                    self.assertEqual(ast.unparse(node.test), "kind is None")
                if isinstance(node, ast.Assign):
                    self.assertIsInstance(node.value, (ast.Attribute, ast.Constant))

    def test_no_name_is_a_method_and_an_attribute(self):
        methods, attributes = set(), set()
        for _, tree in trees():
            for node in ast.walk(tree):
                if isinstance(node, ast.ClassDef):
                    methods |= {one.name for one in node.body if isinstance(one, ast.FunctionDef)}
                    # A property with a setter is assigned like an attribute.
                    methods -= {ast.unparse(one.decorator_list[0])[:-len(".setter")] for one in node.body
                                if isinstance(one, ast.FunctionDef) and len(one.decorator_list) == 1
                                and isinstance(one.decorator_list[0], ast.Attribute)}
                if isinstance(node, ast.Attribute) and isinstance(node.ctx, ast.Store):
                    attributes.add(node.attr)
        self.assertEqual(methods & attributes, set())
        self.assertEqual(attributes & (METHODS_OF_VALUES - {"count", "index"}), set())
