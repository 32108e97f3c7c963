"""Those rules of the language that the text of the package alone can show; the others are for the reader."""

import ast
import builtins
import pathlib
import re

from tests.helper import Case

FOLDER = pathlib.Path(__file__).resolve().parent.parent / "showncalls"
LIBRARY = {
    "heapq": ("heappush", "heappop", "heapify", "heapreplace", "heappushpop"),
    "math": ("gcd", "lcm", "isqrt", "comb", "perm", "factorial"),
    "itertools": ("product", "combinations", "permutations", "chain", "accumulate", "pairwise", "islice", "zip_longest"),
    "collections": ("defaultdict", "deque"),
    "__future__": ("annotations",),
}
BUILTINS = set(
    "len range enumerate zip min max sum abs sorted reversed int str bool bytes list tuple dict set frozenset "
    "isinstance ord repr any all divmod pow getattr hasattr setattr property staticmethod classmethod super map "
    "iter next type Exception ValueError TypeError KeyError IndexError LookupError ZeroDivisionError ArithmeticError "
    "OverflowError RuntimeError NotImplementedError AttributeError StopIteration NotImplemented".split()
)
METHODS = set(
    "append clear copy count endswith extend find get index insert isalnum isalpha isdigit islower isspace isupper "
    "items join keys ljust lower lstrip partition pop remove replace reverse rfind rjust rpartition rsplit rstrip "
    "setdefault split splitlines startswith strip update upper values zfill bit_length add discard sort "
    "appendleft popleft isascii __init__".split()
)
SPECIAL = set(
    "init eq repr str len enter exit call iter lt le gt ge ne add sub mul floordiv mod pow and or xor lshift rshift "
    "neg pos invert abs bool contains getitem setitem".split()
)
BARRED_NAMES = set("register mro elements open input law version_info with_traceback add_note".split())
BARRED_WORDS = re.compile(
    r"\b(typing|typing_extensions|enum|Enum|IntEnum|StrEnum|Flag|IntFlag|Generic|Protocol|ABC|ABCMeta|namedtuple|"
    r"NamedTuple|TypedDict|TYPE_CHECKING|abstractmethod)\b|dataclass|overload|contextmanager|metaclass=|Meta|"
    r"\(type\)|_wall|_WallAttr"
)
LISTS_ONLY = ("any", "all", "min", "max", "sum", "sorted")


def files():
    return sorted(FOLDER.rglob("*.py"))


def trees():
    for path in files():
        yield path, ast.parse(path.read_text())


def nodes(kind):
    for path, tree in trees():
        for node in ast.walk(tree):
            if isinstance(node, kind):
                yield path, node


def module_name(path):
    parts = path.relative_to(FOLDER.parent).with_suffix("").parts
    return ".".join(part for part in parts if part != "__init__")


def defined(tree):
    """All names that a file binds at module level, imports too, in order."""
    for node in tree.body:
        if isinstance(node, (ast.FunctionDef, ast.ClassDef)):
            yield node.name
        elif isinstance(node, ast.Assign):
            yield from (target.id for target in node.targets)
        elif isinstance(node, ast.ImportFrom):
            yield from (name.name for name in node.names)


class Files(Case):
    def test_files_and_folders(self):
        self.assertLessEqual(len(files()), 100)
        for path in FOLDER.rglob("*"):
            if "__pycache__" not in path.parts:
                self.assertTrue(path.is_dir() or path.suffix == ".py", path)
                self.assertRegex(path.stem, "^([a-z][a-z0-9_]*|__init__|__main__)$")
                self.assertFalse(path.is_dir() and not (path / "__init__.py").exists(), path)
                self.assertFalse(path.is_dir() and path.with_suffix(".py").exists(), path)

    def test_sizes_and_characters(self):
        for path in files():
            text = path.read_text()
            lines = text.split("\n")
            self.assertLessEqual(len(lines), 400, path)
            self.assertLessEqual(max(map(len, lines)), 120, path)
            self.assertTrue(all(sign == "\n" or " " <= sign <= "~" for sign in text), path)
            self.assertIsNone(BARRED_WORDS.search(text), path)
        for path, node in nodes(ast.FunctionDef):
            self.assertLessEqual(node.end_lineno - node.lineno + 1, 40, (path, node.name))

    def test_module_level(self):
        allowed = (ast.ImportFrom, ast.FunctionDef, ast.ClassDef, ast.Assign)
        for path, tree in trees():
            for at, node in enumerate(tree.body):
                docstring = at == 0 and isinstance(node, ast.Expr) and isinstance(node.value, ast.Constant)
                self.assertTrue(docstring or isinstance(node, allowed), (path, node.lineno))
            names = list(defined(tree))
            self.assertEqual(len(names), len(set(names)), path)


class Imports(Case):
    def test_only_the_package_and_what_is_allowed(self):
        own = {module_name(path): {name for node in tree.body if not isinstance(node, ast.ImportFrom)
                                   for name in defined(ast.Module([node], []))} for path, tree in trees()}
        for path, node in nodes((ast.Import, ast.ImportFrom)):
            self.assertIsInstance(node, ast.ImportFrom, path)
            for name in node.names:
                self.assertIsNone(name.asname)
                self.assertTrue(name.name in own.get(node.module, ()) or name.name in LIBRARY.get(node.module, ()),
                                (path, name.name))

    def test_all_imports_are_used(self):
        for path, tree in trees():
            used = {node.id for node in ast.walk(tree) if isinstance(node, ast.Name)}
            for node in tree.body:
                if isinstance(node, ast.ImportFrom):
                    self.assertLessEqual({name.name for name in node.names}, used, path)

    def test_no_circles(self):
        needs = {module_name(path): [node.module for node in tree.body if isinstance(node, ast.ImportFrom)]
                 for path, tree in trees()}
        ended = set()
        while len(ended) < len(needs):
            ready = [name for name in needs if name not in ended
                     and all(need in ended or need not in needs for need in needs[name])]
            self.assertTrue(ready, "files import one another")
            ended.update(ready)


class Names(Case):
    def test_builtins(self):
        for path, node in nodes(ast.Name):
            # A test that runs examples may have given builtins a "_".
            if hasattr(builtins, node.id) and node.id != "_":
                self.assertIn(node.id, BUILTINS, (path, node.lineno))
                self.assertIsInstance(node.ctx, ast.Load, (path, node.lineno))
        for path, node in nodes(ast.arg):
            self.assertFalse(hasattr(builtins, node.arg), (path, node.arg))

    def test_barred_names(self):
        for path, node in nodes((ast.Name, ast.arg, ast.Attribute, ast.FunctionDef, ast.keyword)):
            for name in (getattr(node, field, None) for field in ("id", "arg", "attr", "name")):
                self.assertNotIn(name, BARRED_NAMES, path)

    def test_no_local_name_hides_a_class_or_an_import(self):
        for path, tree in trees():
            taken = {node.name for node in tree.body if isinstance(node, ast.ClassDef)}
            taken.update(name.name for node in tree.body if isinstance(node, ast.ImportFrom) for name in node.names)
            for node in ast.walk(tree):
                stored = isinstance(node, ast.Name) and isinstance(node.ctx, ast.Store) and node.id
                self.assertNotIn(stored or isinstance(node, ast.arg) and node.arg, taken, path)

    def test_special_methods(self):
        for path, node in nodes(ast.ClassDef):
            names = [part.name for part in node.body if isinstance(part, ast.FunctionDef)]
            special = {name.strip("_") for name in names if name.startswith("__")}
            self.assertLessEqual(special, SPECIAL, path)
            self.assertTrue("getitem" not in special or "iter" in special, path)

    def test_methods_of_builtin_values(self):
        own = {node.name for path, node in nodes(ast.FunctionDef)}
        for path, node in nodes(ast.Call):
            if isinstance(node.func, ast.Attribute):
                self.assertIn(node.func.attr, METHODS | own, (path, node.lineno))

    def test_no_name_is_that_of_a_generator(self):
        generators, others = [], []
        for path, node in nodes(ast.FunctionDef):
            yields = any(isinstance(part, (ast.Yield, ast.YieldFrom)) for part in ast.walk(node))
            (generators if yields else others).append(node.name)
        self.assertEqual(set(generators) & set(others), set())


class Expressions(Case):
    def test_no_generator_expressions_where_lists_are_due(self):
        for path, node in nodes(ast.Call):
            if isinstance(node.func, ast.Name) and node.func.id in LISTS_ONLY:
                self.assertFalse(any(isinstance(arg, ast.GeneratorExp) for arg in node.args), (path, node.lineno))

    def test_no_floats_and_no_percent_signs(self):
        for path, node in nodes(ast.Constant):
            self.assertNotIsInstance(node.value, float, path)
            self.assertFalse(isinstance(node.value, str) and "%" in node.value, (path, node.lineno))
        for path, node in nodes(ast.BinOp):
            self.assertNotIsInstance(node.op, ast.Div, path)

    def test_is_only_with_constants(self):
        for path, node in nodes(ast.Compare):
            if any(isinstance(sign, (ast.Is, ast.IsNot)) for sign in node.ops):
                self.assertIsInstance(node.comparators[0], ast.Constant, (path, node.lineno))

    def test_statements(self):
        barred = (ast.Global, ast.AsyncFunctionDef, ast.AsyncFor, ast.AsyncWith, ast.Await, ast.AnnAssign, ast.TypeIgnore)
        for path, node in nodes(barred):
            self.fail((path, node.lineno))
        for path, node in nodes(ast.ExceptHandler):
            self.assertIsNotNone(node.type, path)

    def test_sets_stand_only_where_they_are_asked(self):
        for path, tree in trees():
            around = {id(part): node for node in ast.walk(tree) for part in ast.iter_child_nodes(node)}
            for node in ast.walk(tree):
                called = isinstance(node, ast.Call) and isinstance(node.func, ast.Name) and node.func.id == "set"
                if called or isinstance(node, (ast.Set, ast.SetComp)):
                    outer = around[id(node)]
                    asked = isinstance(outer, ast.Call) and getattr(outer.func, "id", None) in ("sorted", "len")
                    self.assertTrue(asked or isinstance(outer, (ast.Compare, ast.Assign, ast.BinOp)), (path, node.lineno))


CHANGING = set("append clear extend insert pop remove reverse setdefault update add discard sort appendleft popleft".split())
MAY_CHANGE = set("__init__ __enter__ __exit__ __call__ __iter__".split())


class Operators(Case):
    """L5 and L28: what operators, properties, __eq__, __str__ and __len__ run changes nothing and yields nothing."""

    def setUp(self):
        self.functions, self.methods, self.inits = {}, {}, {}
        self.roots = []
        for path, tree in trees():
            for node in tree.body:
                if isinstance(node, ast.FunctionDef):
                    self.functions.setdefault(node.name, []).append(node)
                elif isinstance(node, ast.ClassDef):
                    self.inits[node.name] = [part for part in node.body if getattr(part, "name", "") == "__init__"]
                    for part in node.body:
                        if isinstance(part, ast.FunctionDef):
                            self.methods.setdefault(part.name, []).append(part)
                            special = part.name.startswith("__") and part.name not in MAY_CHANGE
                            if special or "property" in [ast.unparse(one) for one in part.decorator_list]:
                                self.roots.append(part)

    def called_by(self, node):
        """All functions and methods of the package that this one may call, by their names alone."""
        for part in ast.walk(node):
            if isinstance(part, ast.Call) and isinstance(part.func, ast.Name):
                yield from self.functions.get(part.func.id, [])
                yield from self.inits.get(part.func.id, [])
            elif isinstance(part, ast.Call) and isinstance(part.func, ast.Attribute):
                yield from self.methods.get(part.func.attr, [])

    def reached(self):
        found = list(self.roots)
        for node in found:
            found.extend(called for called in self.called_by(node) if called not in found)
        return found

    def test_what_is_reached(self):
        names = {node.name for node in self.reached()}
        self.assertLessEqual({"__invert__", "standings_of", "all_rows", "__add__", "inner_moves", "can_stand"}, names)

    def test_nothing_yields(self):
        for node in self.reached():
            for part in ast.walk(node):
                self.assertNotIsInstance(part, (ast.Yield, ast.YieldFrom, ast.Global, ast.Nonlocal), node.name)

    def test_nothing_that_is_passed_is_called(self):
        for node in self.reached():
            passed = {part.arg for part in ast.walk(node.args) if isinstance(part, ast.arg)}
            for part in ast.walk(node):
                if isinstance(part, ast.Call) and isinstance(part.func, ast.Name):
                    self.assertNotIn(part.func.id, passed - {"cls"}, node.name)

    def test_nothing_is_changed_but_what_is_new(self):
        for node in self.reached():
            worth = assigned_in(node)
            new_lists = {name for name, values in worth.items() if all(is_new_list(value) for value in values)}
            new_objects = {name for name, values in worth.items()
                           if all(isinstance(value, ast.Call) and ast.unparse(value.func) in self.inits for value in values)}
            if node.name == "__init__":
                new_objects.add("self")
            kept = kept_by(node)
            for part in ast.walk(node):
                where = (node.name, part.lineno) if hasattr(part, "lineno") else None
                self.assertNotIsInstance(part, ast.Delete, where)
                if kept is not None and isinstance(part, ast.Attribute) and part.attr == kept:
                    continue
                if isinstance(part, ast.AugAssign):
                    self.assertTrue(isinstance(part.target, ast.Name) and isinstance(part.value, ast.Constant), where)
                elif isinstance(part, ast.Attribute) and isinstance(part.ctx, ast.Store):
                    self.assertIn(ast.unparse(part.value), new_objects, where)
                elif isinstance(part, ast.Subscript) and isinstance(part.ctx, ast.Store):
                    self.assertIn(ast.unparse(part.value), new_lists, where)
                elif isinstance(part, ast.Call) and getattr(part.func, "attr", "") in CHANGING:
                    changed = part.func.value
                    if isinstance(changed, ast.Call) and getattr(changed.func, "attr", "") == "setdefault":
                        # A new list in a new dict.
                        self.assertTrue(is_new_list(changed.args[1]), where)
                        changed = changed.func.value
                    self.assertIn(ast.unparse(changed), new_lists, where)

    def test_kept_answers(self):
        kept = {}
        for path, node in nodes(ast.ClassDef):
            for part in node.body:
                name = kept_by(part) if isinstance(part, ast.FunctionDef) else None
                if name is not None:
                    self.assertNotIn(name, kept)
                    kept[name] = node.name
                    self.assertIn(f"self.{name} = None", [ast.unparse(one) for one in ast.walk(self.inits[node.name][0]) if isinstance(one, ast.Assign)])
        self.assertLessEqual({"_shapes", "_steps", "_knowings"}, set(kept))
        for name in kept:
            # Once in `__init__`, and three times where it is kept; and nowhere else, whatever the class is.
            self.assertEqual(sum(node.attr == name for path, node in nodes(ast.Attribute)), 4, name)
            self.assertEqual([path for path, node in nodes(ast.Constant) if node.value == name], [])
            self.assertEqual([path for path, node in nodes((ast.keyword, ast.arg)) if node.arg == name], [])

    def test_returns_of_len(self):
        for node in self.methods["__len__"]:
            returns = [part.value for part in ast.walk(node) if isinstance(part, ast.Return)]
            self.assertTrue(all(isinstance(value, ast.Call) and ast.unparse(value.func) == "len" for value in returns), node.lineno)

    def test_no_name_means_two_things(self):
        attributes = {node.attr for path, node in nodes(ast.Attribute) if isinstance(node.ctx, ast.Store)}
        self.assertEqual(attributes & set(self.methods), set())
        self.assertEqual(set(self.functions) & set(self.methods), set())
        for name, found in self.methods.items():
            kinds = {tuple(ast.unparse(one) for one in node.decorator_list) for node in found}
            self.assertEqual(len(kinds), 1, name)


def kept_by(node):
    """The attribute in which a property keeps its answer, or None if it is none that does."""
    if [ast.unparse(one) for one in node.decorator_list] != ["property"]:
        return None
    rows = [part for part in node.body if not isinstance(part, ast.Expr)]
    if len(rows) != 2 or not isinstance(rows[0], ast.If) or not isinstance(rows[1], ast.Return) or len(rows[0].body) != 1:
        return None
    told = ast.unparse(rows[1].value)
    if ast.unparse(rows[0].test) != f"{told} is None" or rows[0].orelse or not isinstance(rows[0].body[0], ast.Assign):
        return None
    return rows[1].value.attr if [ast.unparse(one) for one in rows[0].body[0].targets] == [told] else None


def assigned_in(node):
    """A dict from the local names of a function to the list of what they are assigned, None where that is not told."""
    found = {}
    for part in ast.walk(node):
        if isinstance(part, ast.Assign):
            for target in part.targets:
                if isinstance(target, ast.Name):
                    found.setdefault(target.id, []).append(part.value)
        if isinstance(part, (ast.For, ast.Assign)):
            for target in [part.target] if isinstance(part, ast.For) else part.targets:
                if isinstance(part, ast.For) or isinstance(target, ast.Tuple):
                    for name in ast.walk(target):
                        if isinstance(name, ast.Name):
                            found.setdefault(name.id, []).append(None)
        if isinstance(part, ast.arg):
            found.setdefault(part.arg, []).append(None)
    return found


def is_new_list(value):
    """Whether an expression makes a list, a dict or a set."""
    if isinstance(value, (ast.List, ast.Dict, ast.Set, ast.ListComp, ast.DictComp, ast.SetComp)):
        return True
    if isinstance(value, ast.Call) and isinstance(value.func, ast.Name):
        return value.func.id in ("list", "dict", "set", "sorted")
    return isinstance(value, ast.Subscript) and isinstance(value.slice, ast.Slice)
