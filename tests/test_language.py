"""The rules of LANGUAGE.md that can be looked for in the code of the package."""

import ast
import builtins
import pathlib
import re
import unittest

PACKAGE = pathlib.Path(__file__).resolve().parent.parent / "samefromhere"
FILES = sorted(PACKAGE.glob("*.py"))
TREES = {path.stem: ast.parse(path.read_text()) for path in FILES}

LIBRARY = {
    "heapq": {"heappush", "heappop", "heapify", "heapreplace", "heappushpop"},
    "math": {"gcd", "lcm", "isqrt", "comb", "perm", "factorial"},
    "itertools": {"product", "combinations", "permutations", "chain", "accumulate", "pairwise", "islice",
                  "zip_longest"},
    "collections": {"defaultdict"},
}
BUILTINS = set("""len range enumerate zip min max sum abs sorted reversed int str bool bytes list tuple dict set
frozenset isinstance ord repr any all divmod pow getattr hasattr setattr iter next map Exception ValueError TypeError
KeyError IndexError LookupError ZeroDivisionError ArithmeticError OverflowError RuntimeError NotImplementedError
AttributeError StopIteration NotImplemented super""".split())
METHODS = set("""append clear copy count endswith extend find get index insert isalnum isalpha isdigit islower isspace
isupper items join keys ljust lower lstrip partition pop remove replace reverse rfind rjust rpartition rsplit rstrip
setdefault split splitlines startswith strip update upper values zfill bit_length title capitalize swapcase casefold
center expandtabs removeprefix removesuffix rindex isascii isdecimal isnumeric istitle isidentifier isprintable add
discard""".split())
DUNDERS = {"__init__", "__eq__", "__repr__", "__str__", "__len__", "__call__", "__iter__"}
NEVER = {"register", "mro", "elements", "open", "input", "law", "version_info", "with_traceback", "add_note"}
NO_VARIABLE = set("""attrgetter breakpoint builtins compile copyright credits delattr dir eval exec exit gc getattr
globals hasattr help id importlib license locals methodcaller os quit setattr super type vars sys""".split())
NO_WORD = set("""type typing typing_extensions enum Enum IntEnum StrEnum Flag IntFlag Generic Protocol ABC ABCMeta
namedtuple NamedTuple TypedDict TYPE_CHECKING abstractmethod""".split())
AT_ONCE = {"range", "zip", "enumerate", "reversed", "map", "items", "keys", "values", "combinations", "permutations",
           "product", "chain", "pairwise", "accumulate"}
TAKES = {"list", "tuple", "dict", "sorted", "sum", "any", "all", "enumerate", "zip", "min", "max", "len", "combinations",
         "permutations", "product"}


def called(node):
    """The name by which a call goes, a method's too."""
    if isinstance(node, ast.Call):
        return node.func.id if isinstance(node.func, ast.Name) else getattr(node.func, "attr", None)
    return None


def bound_in(function):
    """All names that a function or lambda binds: parameters, targets, nested functions."""
    names = []
    for node in ast.walk(function):
        if isinstance(node, ast.arg):
            names.append(node.arg)
        elif isinstance(node, ast.Name) and not isinstance(node.ctx, ast.Load):
            names.append(node.id)
        elif isinstance(node, (ast.FunctionDef,)) and node is not function:
            names.append(node.name)
    return names


class TestFiles(unittest.TestCase):
    def test_l1_l14_files(self):
        self.assertLessEqual(len(FILES), 100)
        for path in PACKAGE.iterdir():
            if path.name != "__pycache__":
                self.assertRegex(path.name, r"^[a-z0-9_]+\.py$")
        self.assertTrue((PACKAGE / "__init__.py").exists())

    def test_l10_sizes(self):
        for path in FILES:
            lines = path.read_text().split("\n")
            self.assertLessEqual(len(lines) - 1, 399, path)
            for at, line in enumerate(lines):
                self.assertLessEqual(len(line), 120, (path, at))
            for node in ast.walk(TREES[path.stem]):
                if isinstance(node, ast.FunctionDef):
                    self.assertLessEqual(node.end_lineno - node.lineno + 1, 40, (path, node.name))

    def test_l14_characters(self):
        for path in FILES:
            self.assertRegex(path.read_text(), r"\A[ -~\n]*\Z", path)
            self.assertTrue(path.read_text().endswith("\n"), path)

    def test_l12_l17_words(self):
        for path in FILES:
            text = path.read_text()
            self.assertNotIn("_wall", text)
            self.assertNotIn("_WallAttr", text)
            for node in ast.walk(TREES[path.stem]):
                if isinstance(node, ast.Constant) and isinstance(node.value, str):
                    self.assertNotIn("%", node.value, path)


class TestImports(unittest.TestCase):
    def imports(self, stem):
        return [node for node in ast.walk(TREES[stem]) if isinstance(node, (ast.Import, ast.ImportFrom))]

    def defined(self, stem):
        names = []
        for node in TREES[stem].body:
            if isinstance(node, (ast.FunctionDef, ast.ClassDef)):
                names.append(node.name)
            elif isinstance(node, ast.Assign):
                names.extend(target.id for target in node.targets)
        return names

    def test_l2_l16_from_imports_of_the_defining_file(self):
        for stem in TREES:
            for node in self.imports(stem):
                self.assertIsInstance(node, ast.ImportFrom, stem)
                self.assertEqual(node.level, 0)
                for alias in node.names:
                    self.assertIsNone(alias.asname, stem)
                    if node.module in LIBRARY:
                        self.assertIn(alias.name, LIBRARY[node.module])
                    else:
                        self.assertRegex(node.module, r"^samefromhere\.[a-z]+$")
                        self.assertIn(alias.name, self.defined(node.module.split(".")[1]), stem)

    def test_imports_are_used(self):
        for stem in TREES:
            used = {node.id for node in ast.walk(TREES[stem]) if isinstance(node, ast.Name)}
            for node in self.imports(stem):
                for alias in node.names:
                    self.assertIn(alias.name, used, stem)

    def test_l16_no_rings(self):
        needs = {stem: {node.module.split(".")[1] for node in self.imports(stem)
                        if node.module.startswith("samefromhere")} for stem in TREES}
        done = set()
        while len(done) < len(needs):
            ready = {stem for stem in needs if stem not in done and needs[stem] <= done}
            self.assertTrue(ready, "files import from each other")
            done |= ready

    def test_l15_names_bound_once(self):
        for stem in TREES:
            names = self.defined(stem) + [alias.name for node in self.imports(stem) for alias in node.names]
            self.assertEqual(len(names), len(set(names)), stem)

    def test_l3_module_level(self):
        for stem, tree in TREES.items():
            for at, node in enumerate(tree.body):
                if at == 0:
                    self.assertIsInstance(node.value.value, str, stem)
                elif isinstance(node, ast.Assign):
                    self.assertEqual(len(node.targets), 1)
                    self.assertIsInstance(node.targets[0], ast.Name)
                    ast.literal_eval(node.value)
                else:
                    self.assertIsInstance(node, (ast.ImportFrom, ast.FunctionDef, ast.ClassDef), stem)


class TestNames(unittest.TestCase):
    def test_l15_locals_are_no_imports_classes_builtins(self):
        for stem, tree in TREES.items():
            barred = {alias.name for node in ast.walk(tree) if isinstance(node, ast.ImportFrom) for alias in node.names}
            barred |= {node.name for node in ast.walk(tree) if isinstance(node, ast.ClassDef)}
            barred |= set(dir(builtins)) | NO_VARIABLE | NEVER
            for node in ast.walk(tree):
                if isinstance(node, (ast.FunctionDef, ast.Lambda)):
                    for name in bound_in(node):
                        self.assertNotIn(name, barred - {"_"}, stem)
                        self.assertRegex(name, r"^(_|_?[a-zA-Z][a-zA-Z0-9_]*)$")

    def test_l15_l17_functions_and_classes(self):
        for stem, tree in TREES.items():
            for node in ast.walk(tree):
                if isinstance(node, (ast.FunctionDef, ast.ClassDef)) and node.name not in DUNDERS:
                    self.assertNotIn(node.name, NEVER | NO_VARIABLE, stem)
                    self.assertFalse(node.name.startswith("__"), stem)
                    self.assertEqual(node.decorator_list, [], stem)
                if isinstance(node, ast.ClassDef):
                    self.assertRegex(node.name, "^[A-Z]")

    def test_l8_builtins(self):
        for stem, tree in TREES.items():
            for node in ast.walk(tree):
                if isinstance(node, ast.Name) and node.id in dir(builtins):
                    self.assertIn(node.id, BUILTINS, stem)
                if isinstance(node, ast.Name) and node.id == "_":
                    self.assertNotIsInstance(node.ctx, ast.Load, stem)

    def test_l17_words(self):
        for stem, tree in TREES.items():
            for node in ast.walk(tree):
                words = []
                if isinstance(node, ast.Name):
                    words = [node.id]
                elif isinstance(node, ast.Attribute):
                    words = [node.attr]
                    self.assertNotIn(node.attr, NEVER, stem)
                elif isinstance(node, ast.arg):
                    words = [node.arg]
                for word in words:
                    self.assertNotIn(word, NO_WORD, stem)

    def test_l25_l26_methods(self):
        own = {node.name for tree in TREES.values() for kind in ast.walk(tree) if isinstance(kind, ast.ClassDef)
               for node in kind.body if isinstance(node, ast.FunctionDef)}
        for stem, tree in TREES.items():
            for node in ast.walk(tree):
                if isinstance(node, ast.Call) and isinstance(node.func, ast.Attribute):
                    self.assertIn(node.func.attr, own | METHODS, stem)


class TestStatements(unittest.TestCase):
    def test_l6_l7_what_never_stands(self):
        barred = (ast.Global, ast.AsyncFunctionDef, ast.Await, ast.Div, ast.GeneratorExp, ast.Yield, ast.YieldFrom,
                  ast.AnnAssign, ast.With, ast.Match, ast.Set, ast.NamedExpr, ast.JoinedStr, ast.Pow)
        for stem, tree in TREES.items():
            for node in ast.walk(tree):
                self.assertNotIsInstance(node, barred, (stem, getattr(node, "lineno", 0)))
                if isinstance(node, ast.Constant):
                    self.assertNotIsInstance(node.value, (float, complex), stem)

    def test_l20_is(self):
        for stem, tree in TREES.items():
            for node in ast.walk(tree):
                if isinstance(node, ast.Compare):
                    for operator, right in zip(node.ops, node.comparators):
                        if isinstance(operator, (ast.Is, ast.IsNot)):
                            self.assertIsInstance(right, ast.Constant, stem)
                            self.assertIn(right.value, (None, True, False), stem)

    def test_l19_raise_creates_its_error(self):
        for stem, tree in TREES.items():
            for node in ast.walk(tree):
                if isinstance(node, ast.Raise):
                    self.assertRegex(called(node.exc), "^[A-Z]", stem)

    def test_l19_l6_own_errors_are_caught_and_finally_is_simple(self):
        own = {node.name for tree in TREES.values() for node in ast.walk(tree) if isinstance(node, ast.ClassDef)}
        simple = (ast.Name, ast.Attribute, ast.Constant)
        for stem, tree in TREES.items():
            for node in ast.walk(tree):
                if isinstance(node, ast.Try):
                    for handler in node.handlers:
                        self.assertIn(getattr(handler.type, "id", None), own, stem)
                    for row in node.finalbody:
                        self.assertIsInstance(row, ast.Assign, stem)
                        self.assertIsInstance(row.value, simple, stem)
                        for target in row.targets:
                            self.assertIsInstance(target, (ast.Name, ast.Attribute), stem)

    def test_l18_error_classes(self):
        """An error class stands right beneath NetError, in its file, or beneath Exception."""
        for stem, tree in TREES.items():
            for node in tree.body:
                if isinstance(node, ast.ClassDef):
                    for base in node.bases:
                        self.assertNotIn(base.id, ("StopIteration", "AttributeError", "BaseException"), stem)
                    if stem == "errors" and node.name != "NetError":
                        self.assertEqual([base.id for base in node.bases], ["NetError"])

    def test_l18_no_name_is_a_method_and_an_attribute(self):
        kinds = {node.name: node for tree in TREES.values() for node in tree.body if isinstance(node, ast.ClassDef)}

        def methods(name):
            if name not in kinds:
                return set()
            found = {row.name for row in kinds[name].body if isinstance(row, ast.FunctionDef)}
            return found.union(*[methods(base.id) for base in kinds[name].bases])

        for name, tree in kinds.items():
            rows = [row.name for row in tree.body if isinstance(row, ast.FunctionDef)]
            self.assertEqual(len(rows), len(set(rows)), name)
            kept = {node.attr for node in ast.walk(tree) if isinstance(node, ast.Attribute)
                    and isinstance(node.ctx, ast.Store) and getattr(node.value, "id", None) == "self"}
            self.assertFalse(kept & methods(name), name)

    def test_l12_names_that_are_barred(self):
        barred = re.compile(r"^_(wall|pe_|dcw_|enum_|cm_|twin_re_|lay_|law_|stub_|sre|WallAttr)|"
                            r"^_(cold|tuplegetter|outside|record|written_out|member_names)[0-9_]*$")
        for stem, tree in TREES.items():
            for node in ast.walk(tree):
                for name in (getattr(node, "id", ""), getattr(node, "attr", ""), getattr(node, "arg", ""),
                             getattr(node, "name", "")):
                    self.assertIsNone(barred.search(name or ""), (stem, name))

    def test_l27_escapes(self):
        """No escapes but those of a line feed, a tab, a backslash and quotes."""
        for path in FILES:
            for line in path.read_text().split("\n"):
                self.assertIsNone(re.search(r"\\[^nt\\'\"]", line.replace("\\\\", "")), (path, line))

    def test_l23_l24_iterated_at_once(self):
        for stem, tree in TREES.items():
            parents = {child: node for node in ast.walk(tree) for child in ast.iter_child_nodes(node)}
            for node in ast.walk(tree):
                name = called(node)
                if name in AT_ONCE:
                    parent = parents[node]
                    fits = isinstance(parent, (ast.For, ast.comprehension)) or called(parent) in TAKES
                    kept = name == "range" and (isinstance(parent, ast.Assign) or called(parent) == "reversed")
                    self.assertTrue(fits or kept, (stem, node.lineno, name))
                if name == "set":
                    self.assertIn(called(parents[node]), ("sorted", "len"), (stem, node.lineno))
                if isinstance(node, ast.SetComp):
                    self.fail((stem, node.lineno))

    def test_l13_lambdas(self):
        for stem, tree in TREES.items():
            lines = [node.lineno for node in ast.walk(tree) if isinstance(node, ast.Lambda)]
            self.assertEqual(len(lines), len(set(lines)), stem)

    def test_l7_comprehension_names(self):
        """No comprehension binds a name that one inside it binds, too."""
        kinds = (ast.ListComp, ast.DictComp, ast.SetComp)
        for stem, tree in TREES.items():
            for node in ast.walk(tree):
                if isinstance(node, kinds):
                    outer = {name.id for comp in node.generators for name in ast.walk(comp.target)
                             if isinstance(name, ast.Name)} - {"_"}
                    for inner in ast.walk(node):
                        if inner is not node and isinstance(inner, kinds):
                            names = {name.id for comp in inner.generators for name in ast.walk(comp.target)
                                     if isinstance(name, ast.Name)}
                            self.assertFalse(outer & names, (stem, inner.lineno))


class TestProse(unittest.TestCase):
    def test_l10_no_tabs_no_trailing_blanks(self):
        for path in FILES:
            for line in path.read_text().split("\n"):
                self.assertIsNone(re.search(r"\t|\s$", line), path)


if __name__ == "__main__":
    unittest.main()
