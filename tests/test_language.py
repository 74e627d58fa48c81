"""Checks that the files of the package keep to the subset of Python that the program is written in."""

import ast
import builtins
import pathlib
import re
import unittest
import warnings

PACKAGE = pathlib.Path(__file__).resolve().parent.parent / "waypairs"
FILES = sorted(PACKAGE.glob("*.py"))
BUILTINS = set("""len range enumerate zip min max sum abs sorted reversed int str bool list tuple dict set isinstance
    ord repr any all divmod iter next ValueError TypeError KeyError Exception NotImplemented property staticmethod
    classmethod super""".split())
BUILTIN_METHODS = set("""append clear copy count endswith extend find get index insert isalnum isalpha isdigit islower
    isspace isupper items join keys ljust lower lstrip partition pop remove replace reverse rfind rjust rpartition
    rsplit rstrip setdefault split splitlines startswith strip update upper values zfill bit_length""".split())
ATTRIBUTES_LIKE_METHODS = set("count index title find get join lower upper split strip copy add".split())
DUNDERS = set("""__init__ __eq__ __repr__ __str__ __len__ __iter__ __contains__ __getitem__ __or__ __and__
    __rshift__""".split())
NOT_ANYWHERE = set("register mro elements open input law version_info with_traceback add_note".split())
NOT_IN_TEXT = set("""type typing typing_extensions enum Enum IntEnum StrEnum Flag IntFlag Generic Protocol ABC ABCMeta
    namedtuple NamedTuple TypedDict TYPE_CHECKING abstractmethod""".split())
STATEMENTS = (ast.Assign, ast.AugAssign, ast.If, ast.While, ast.For, ast.Return, ast.Break, ast.Continue, ast.Pass,
              ast.Raise, ast.Assert, ast.Delete, ast.Try, ast.Expr, ast.FunctionDef, ast.ClassDef, ast.ImportFrom)
DESCRIBED_ORDER = """errors kinds webs rules webtext manners clients clientrun refine matching parting alikejudge
    editions registers travels memos walk events saved reading rows fieldtables journeys
    oneway rowrings meetings standings closure leastweb verdicts entrygraph rings growth family pairjudge
    comparers comparing comparejudge manysets heirs mends matrix""".split()


def trees():
    return {path: ast.parse(path.read_text()) for path in FILES}


TREES = trees()


def functions(tree):
    return [node for node in ast.walk(tree) if isinstance(node, ast.FunctionDef)]


def classes_of(tree):
    return [node for node in tree.body if isinstance(node, ast.ClassDef)]


def own_methods():
    return {node.name for tree in TREES.values() for one in classes_of(tree) for node in one.body
            if isinstance(node, ast.FunctionDef)}


def stored_attributes(tree):
    return {node.attr for node in ast.walk(tree) if isinstance(node, ast.Attribute)
            and isinstance(node.ctx, ast.Store)}


def bound_names(function):
    names = [arg.arg for arg in ast.walk(function) if isinstance(arg, ast.arg)]
    return names + [node.id for node in ast.walk(function) if isinstance(node, ast.Name)
                    and isinstance(node.ctx, ast.Store)]


def names_of_one_value(function):
    """For each name the names that an assignment of the function lets go by one value with it."""
    groups = {}
    for node in ast.walk(function):
        if isinstance(node, ast.Assign):
            value = node.value
            parts = [value.body, value.orelse] if isinstance(value, ast.IfExp) else getattr(value, "values", [value])
            names = {one.id for one in [*node.targets, *parts] if isinstance(one, ast.Name)}
            for name in list(names):
                names |= groups.get(name, set())
            for name in names:
                groups[name] = names
    return groups


def walked_names(node):
    """The names and attributes, as they are written, that are walked by what stands behind an `in`."""
    if isinstance(node, (ast.Name, ast.Attribute, ast.Subscript)):
        return [ast.unparse(node)]
    if isinstance(node, ast.Call):
        called = node.func.attr if isinstance(node.func, ast.Attribute) else node.func.id
        if called in ("items", "keys", "values"):
            return walked_names(node.func.value)
        if called in ("enumerate", "zip", "reversed"):
            return [name for arg in node.args for name in walked_names(arg)]
    return []


def changed_names(row):
    """The names and attributes, as they are written, that a statement changes."""
    found = []
    for node in ast.walk(row):
        if isinstance(node, ast.Call) and isinstance(node.func, ast.Attribute) and node.func.attr in (
                "append", "clear", "extend", "insert", "pop", "remove", "reverse", "setdefault", "update"):
            found.append(ast.unparse(node.func.value))
        if isinstance(node, ast.Subscript) and not isinstance(node.ctx, ast.Load):
            found.append(ast.unparse(node.value))
        if isinstance(node, ast.AugAssign):
            found.append(ast.unparse(node.target))
    return found


class TestFiles(unittest.TestCase):
    def test_folder(self):
        kept = [path.name for path in PACKAGE.iterdir() if path.name != "__pycache__"]
        self.assertTrue(all(re.fullmatch(r"[a-z0-9_]+\.py", name) for name in kept), kept)

    def test_sizes_and_characters(self):
        for path in FILES:
            text = path.read_text()
            lines = text.split("\n")
            self.assertLessEqual(len(lines), 399, path)
            for at, line in enumerate(lines, 1):
                self.assertLessEqual(len(line), 120, (path, at))
                self.assertTrue(all(" " <= letter <= "~" for letter in line), (path, at))
            for node in functions(TREES[path]):
                self.assertLessEqual(node.end_lineno - node.lineno + 1, 40, (path, node.name))

    def test_no_warnings(self):
        for path in FILES:
            with warnings.catch_warnings():
                warnings.simplefilter("error")
                compile(path.read_text(), str(path), "exec")

    def test_words(self):
        for path in FILES:
            tree = TREES[path]
            for node in ast.walk(tree):
                if isinstance(node, ast.Constant) and isinstance(node.value, str):
                    self.assertNotIn("%", node.value, path)
                    self.assertFalse(node.value.endswith(("._", ".__")), path)
            text = re.sub(r'"""(.|\n)*?"""', "", path.read_text())
            text = re.sub(r"#.*", "", text)
            self.assertEqual(set(re.findall(r"\w+", text)) & NOT_IN_TEXT, set(), path)
            self.assertEqual(set(re.findall(r"\w+", text)) & NOT_ANYWHERE, set(), path)
            for word in ("(type)", "Meta", "metaclass=", "dataclass", "overload", "contextmanager"):
                self.assertNotIn(word, path.read_text(), path)


class TestModules(unittest.TestCase):
    def test_module_level(self):
        for path, tree in TREES.items():
            bound = []
            for at, node in enumerate(tree.body):
                if isinstance(node, ast.Expr):
                    self.assertTrue(at == 0 and isinstance(node.value, ast.Constant), (path, node.lineno))
                elif isinstance(node, ast.ImportFrom):
                    bound.extend(alias.name for alias in node.names)
                elif isinstance(node, ast.Assign):
                    self.assertEqual(len(node.targets), 1)
                    bound.append(node.targets[0].id)
                else:
                    self.assertIsInstance(node, (ast.FunctionDef, ast.ClassDef), (path, node.lineno))
                    bound.append(node.name)
            self.assertEqual(len(bound), len(set(bound)), path)

    def test_imports(self):
        needs = {}
        for path, tree in TREES.items():
            needs[path.stem] = []
            for node in ast.walk(tree):
                self.assertNotIsInstance(node, ast.Import, path)
                if not isinstance(node, ast.ImportFrom):
                    continue
                self.assertIn(node, tree.body)
                self.assertEqual((node.level, node.module.split(".")[0]), (0, "waypairs"))
                other = node.module.split(".")[1]
                needs[path.stem].append(other)
                body = TREES[PACKAGE / (other + ".py")].body
                defined = {one.name for one in body if isinstance(one, (ast.FunctionDef, ast.ClassDef))}
                defined |= {one.targets[0].id for one in body if isinstance(one, ast.Assign)}
                for alias in node.names:
                    self.assertIsNone(alias.asname)
                    self.assertIn(alias.name, defined, path)
        self.check_order(needs)

    def check_order(self, needs):
        """Each file of the document needs only earlier ones, and nothing needs itself."""
        def all_needs(name, above):
            self.assertNotIn(name, above)
            found = set(needs[name])
            for other in needs[name]:
                found |= all_needs(other, [*above, name])
            return found
        for name in needs:
            found = all_needs(name, [])
            if name in DESCRIBED_ORDER:
                allowed = DESCRIBED_ORDER[:DESCRIBED_ORDER.index(name)]
                self.assertEqual([other for other in found if other in DESCRIBED_ORDER and other not in allowed], [])

    def test_imports_are_used(self):
        for path, tree in TREES.items():
            used = {node.id for node in ast.walk(tree) if isinstance(node, ast.Name)}
            for node in tree.body:
                if isinstance(node, ast.ImportFrom):
                    self.assertEqual([alias.name for alias in node.names if alias.name not in used], [], path)

    def test_names_are_not_bound_again(self):
        everywhere = set(dir(builtins))
        for path, tree in TREES.items():
            taken = {one.name for one in classes_of(tree)}
            taken |= {alias.name for node in tree.body if isinstance(node, ast.ImportFrom) for alias in node.names}
            for function in functions(tree):
                for name in bound_names(function):
                    self.assertNotIn(name, taken | everywhere, (path, function.name))
            for node in tree.body:
                if not isinstance(node, ast.ImportFrom) and isinstance(node, (ast.FunctionDef, ast.ClassDef)):
                    self.assertNotIn(node.name, everywhere, path)


class TestStatements(unittest.TestCase):
    def test_statements(self):
        for path, tree in TREES.items():
            for node in ast.walk(tree):
                if isinstance(node, ast.stmt):
                    self.assertIsInstance(node, STATEMENTS + ((ast.Expr,)), (path, node.lineno))
                self.assertNotIsInstance(node, (ast.GeneratorExp, ast.AnnAssign, ast.Global, ast.Set, ast.SetComp,
                                                ast.NamedExpr, ast.YieldFrom, ast.Div, ast.Await), path)
                if isinstance(node, ast.Constant):
                    self.assertNotIsInstance(node.value, (float, complex, bytes), path)
                if isinstance(node, ast.Name) and node.id == "_":
                    self.assertIsInstance(node.ctx, ast.Store, path)

    def test_is(self):
        for path, tree in TREES.items():
            for node in ast.walk(tree):
                if isinstance(node, ast.Compare):
                    for sign, right in zip(node.ops, node.comparators):
                        if isinstance(sign, (ast.Is, ast.IsNot)):
                            self.assertIsInstance(right, ast.Constant, (path, node.lineno))

    def test_errors(self):
        own = {one.name for one in classes_of(TREES[PACKAGE / "errors.py"])}
        for path, tree in TREES.items():
            for node in ast.walk(tree):
                if isinstance(node, ast.ExceptHandler):
                    caught = node.type.elts if isinstance(node.type, ast.Tuple) else [node.type]
                    self.assertLessEqual({one.id for one in caught}, own, (path, node.lineno))
                if isinstance(node, ast.Raise) and node.exc is not None:
                    self.assertIn(node.exc.func.id, own | {"TypeError"}, (path, node.lineno))

    def test_calls(self):
        methods = own_methods()
        for path, tree in TREES.items():
            known = {node.id for node in ast.walk(tree) if isinstance(node, ast.Name)
                     and isinstance(node.ctx, ast.Store)}
            known |= {node.name for node in ast.walk(tree) if isinstance(node, (ast.FunctionDef, ast.ClassDef))}
            known |= {arg.arg for arg in ast.walk(tree) if isinstance(arg, ast.arg)}
            known |= {alias.name for node in tree.body if isinstance(node, ast.ImportFrom) for alias in node.names}
            for node in ast.walk(tree):
                if isinstance(node, ast.Name) and isinstance(node.ctx, ast.Load):
                    self.assertIn(node.id, known | BUILTINS, (path, node.lineno))
                if isinstance(node, ast.Call):
                    self.check_call(path, node, methods)

    def check_call(self, path, node, methods):
        place = (path, node.lineno)
        if isinstance(node.func, ast.Attribute):
            self.assertIn(node.func.attr, methods | BUILTIN_METHODS, place)
            if node.func.attr in BUILTIN_METHODS:
                self.assertEqual(node.keywords, [], place)
            return
        self.assertIsInstance(node.func, ast.Name, place)
        if node.func.id == "reversed":
            inner = node.args[0]
            self.assertTrue(isinstance(inner, ast.Call) and inner.func.id in ("list", "tuple", "sorted", "range"))
        if node.func.id in BUILTINS:
            self.assertLessEqual({word.arg for word in node.keywords}, {"key", "reverse", "default", "start"}, place)

    def test_sets_stand_in_len_and_sorted(self):
        for path, tree in TREES.items():
            allowed = [id(node.args[0]) for node in ast.walk(tree) if isinstance(node, ast.Call)
                       and isinstance(node.func, ast.Name) and node.func.id in ("len", "sorted")]
            for node in ast.walk(tree):
                if isinstance(node, ast.Call) and isinstance(node.func, ast.Name) and node.func.id == "set":
                    self.assertIn(id(node), allowed, (path, node.lineno))

    def test_views_are_iterated_at_once(self):
        for path, tree in TREES.items():
            allowed = []
            for node in ast.walk(tree):
                if isinstance(node, (ast.For, ast.comprehension)):
                    allowed.append(id(node.iter))
                if isinstance(node, ast.Call) and isinstance(node.func, ast.Name) and node.func.id in (
                        "list", "tuple", "dict", "sorted", "sum", "enumerate", "zip", "min", "max"):
                    allowed.extend(id(arg) for arg in node.args[:1])
            for node in ast.walk(tree):
                if isinstance(node, ast.Call):
                    name = node.func.id if isinstance(node.func, ast.Name) else node.func.attr
                    if name in ("zip", "enumerate", "range", "reversed", "items", "keys", "values"):
                        self.assertIn(id(node), allowed, (path, node.lineno))

    def test_walked_lists_are_not_changed(self):
        """What a loop walks is not changed in it, nor a list that shares a name with it anywhere in the function."""
        for path, tree in TREES.items():
            for function in functions(tree):
                alike = names_of_one_value(function)
                for node in ast.walk(function):
                    if isinstance(node, ast.For):
                        walked = {name for one in walked_names(node.iter) for name in alike.get(one, {one})}
                        changed = {one for row in node.body for one in changed_names(row)}
                        self.assertEqual(walked & changed, set(), (path, node.lineno))


class TestClasses(unittest.TestCase):
    def test_methods(self):
        for path, tree in TREES.items():
            for one in classes_of(tree):
                methods = [node.name for node in one.body if isinstance(node, ast.FunctionDef)]
                self.assertEqual(len(methods), len(set(methods)), (path, one.name))
                for name in methods:
                    if name.startswith("__"):
                        self.assertIn(name, DUNDERS, (path, one.name))
                self.assertEqual(one.decorator_list, [])
                if "__getitem__" in methods:
                    self.assertIn("__iter__", methods)
                self.assertEqual(set(methods) & stored_attributes(one), set(), (path, one.name))

    def test_attributes_and_methods_have_different_names(self):
        stored = set().union(*[stored_attributes(tree) for tree in TREES.values()])
        self.assertEqual(stored & own_methods(), set())
        values = {node.targets[0].id for tree in TREES.values() for one in classes_of(tree) for node in one.body
                  if isinstance(node, ast.Assign)}
        for path, tree in TREES.items():
            for node in ast.walk(tree):
                if isinstance(node, ast.Attribute) and isinstance(node.ctx, ast.Load):
                    self.assertIn(node.attr, stored | own_methods() | BUILTIN_METHODS | values, (path, node.lineno))
        of_values = set().union(*[dir(one) for one in (str, int, list, dict, set, bytes, tuple)])
        self.assertEqual(stored & of_values - ATTRIBUTES_LIKE_METHODS, set())
        self.assertEqual(own_methods() & of_values - DUNDERS, set())

    def test_generators(self):
        for path, tree in TREES.items():
            names = [function.name for function in functions(tree)
                     if any(isinstance(node, ast.Yield) for node in ast.walk(function))]
            self.assertLessEqual(set(names), {"ways", "walk_events"}, path)
            self.assertEqual([node.lineno for node in ast.walk(tree) if isinstance(node, ast.Name)
                              and node.id in ("ways", "walk_events")], [], path)

    def test_equality_form(self):
        for path, tree in TREES.items():
            for function in functions(tree):
                if function.name == "__eq__":
                    self.assertEqual(len(function.body), 1)
                    self.assertIsInstance(function.body[0], ast.Return)
                    self.assertIsInstance(function.body[0].value, ast.BoolOp, path)
                self.assertEqual([node for node in function.decorator_list if node.id not in (
                    "staticmethod", "classmethod", "property")], [])
                self.assertIsNone(function.returns)
                self.assertEqual([arg for arg in ast.walk(function) if isinstance(arg, ast.arg) and arg.annotation], [])


if __name__ == "__main__":
    unittest.main()
