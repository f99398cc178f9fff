"""Whether the files of the package keep those rules of ../shared/LANGUAGE.md that can be seen by their form."""

import ast
import builtins
import re
import unittest
from pathlib import Path

PACKAGE = Path(__file__).resolve().parent.parent / "afterwise"
BUILTINS = set(
    "len range enumerate zip min max sum abs sorted reversed int str bool bytes list tuple dict set frozenset isinstance"
    " ord repr any all divmod pow iter next map Exception ValueError TypeError KeyError IndexError LookupError"
    " ZeroDivisionError ArithmeticError OverflowError RuntimeError NotImplementedError AttributeError StopIteration"
    " NotImplemented classmethod property".split()
)
METHODS = set(
    "append clear copy count endswith extend find get index insert isalnum isalpha isdigit islower isspace isupper items"
    " join keys ljust lower lstrip partition pop remove replace reverse rfind rjust rpartition rsplit rstrip setdefault"
    " split splitlines startswith strip update upper values zfill bit_length".split()
)
SPECIAL = set(
    "__init__ __eq__ __repr__ __str__ __len__ __enter__ __exit__ __call__ __iter__ __lt__ __le__ __gt__ __ge__ __ne__"
    " __add__ __sub__ __mul__ __neg__ __pos__ __invert__ __abs__ __bool__ __contains__ __getitem__ __setitem__".split()
)
LIBRARY = {
    "heapq": {"heappush", "heappop", "heapify", "heapreplace", "heappushpop"},
    "math": {"gcd", "lcm", "isqrt", "comb", "perm", "factorial"},
    "itertools": {"chain", "accumulate", "pairwise", "islice", "zip_longest"},
    "collections": {"defaultdict"},
}
NEVER = set(
    "register mro elements open input law version_info with_traceback add_note type typing enum Enum namedtuple"
    " Generic Protocol ABC format format_map".split()
)
NO_NAMES = set(
    "attrgetter breakpoint builtins compile copyright credits delattr dir eval exec exit gc globals help id importlib"
    " license locals methodcaller os quit super vars sys".split()
)
BAD_NODES = (
    ast.Global, ast.AsyncFunctionDef, ast.AsyncFor, ast.AsyncWith, ast.Await, ast.Div, ast.MatMult, ast.Import,
    ast.AnnAssign, ast.Set, ast.GeneratorExp, ast.TryStar,
)
BUILTIN_ATTRIBUTES = {name for kind in (str, int, list, dict, set, bytes, tuple) for name in dir(kind)}
ALLOWED_ATTRIBUTES = set("count index title find get join lower upper split strip copy add".split())
CHANGING = set("append pop extend insert remove clear setdefault update reverse".split())


def files():
    return sorted(PACKAGE.rglob("*.py"))


def functions(tree):
    return [node for node in ast.walk(tree) if isinstance(node, ast.FunctionDef)]


def bound_names(tree):
    """All names that are parameters, variables, functions, classes or imports somewhere in a file."""
    names = set()
    for node in ast.walk(tree):
        if isinstance(node, ast.Name) and isinstance(node.ctx, ast.Store):
            names.add(node.id)
        elif isinstance(node, ast.arg):
            names.add(node.arg)
        elif isinstance(node, (ast.ClassDef, ast.FunctionDef)):
            names.add(node.name)
        elif isinstance(node, ast.alias):
            names.add(node.asname or node.name)
    return names


def local_names(tree):
    """The parameters and variables of the functions of a file."""
    names = set()
    for function in functions(tree):
        for node in ast.walk(function):
            if isinstance(node, ast.Name) and isinstance(node.ctx, ast.Store):
                names.add(node.id)
            elif isinstance(node, ast.arg):
                names.add(node.arg)
    return names


def changed_in(loop):
    """What a loop assigns items to, or calls a changing method of."""
    found = []
    for node in ast.walk(loop):
        if isinstance(node, ast.Subscript) and isinstance(node.ctx, (ast.Store, ast.Del)):
            found.append(node.value)
        elif isinstance(node, ast.Call) and isinstance(node.func, ast.Attribute) and node.func.attr in CHANGING:
            found.append(node.func.value)
        elif isinstance(node, ast.Call) and getattr(node.func, "id", None) in LIBRARY["heapq"]:
            found.append(node.args[0])
    return found


def is_of_field(node, names):
    """Whether a value is an attribute or a choice of such, or lies in one; the names stand for such values."""
    if isinstance(node, ast.IfExp):
        return is_of_field(node.body, names) or is_of_field(node.orelse, names)
    if isinstance(node, ast.BoolOp):
        return any(is_of_field(value, names) for value in node.values)
    while isinstance(node, ast.Subscript):
        node = node.value
    return isinstance(node, ast.Attribute) or isinstance(node, ast.Name) and node.id in names


def walks_field(node, names):
    """Whether a loop over a value walks an attribute or something that lies in one, and no copy of it."""
    if isinstance(node, ast.Call):
        if isinstance(node.func, ast.Attribute) and node.func.attr in ("items", "keys", "values"):
            return walks_field(node.func.value, names)
        within = getattr(node.func, "id", None) in ("enumerate", "zip", "reversed")
        return within and any(walks_field(value, names) for value in node.args)
    return is_of_field(node, names)


def names_of_fields(function):
    """The names of a function that are given attributes, or what lies in them, by assignments and loops."""
    names = set()
    # Outer loops come ahead of inner ones here.
    for node in ast.walk(function):
        if isinstance(node, ast.Assign):
            target, value = node.targets[0], node.value
            both = isinstance(target, ast.Tuple) and isinstance(value, ast.Tuple)
            pairs = zip(target.elts, value.elts) if both else [(target, value)]
            given = [one for one, other in pairs if is_of_field(other, names)]
        else:
            given = [node.target] if isinstance(node, ast.For) and walks_field(node.iter, names) else []
        for target in given:
            names |= {item.id for item in ast.walk(target) if isinstance(item, ast.Name) and isinstance(item.ctx, ast.Store)}
    return names


def loops_that_change_fields(tree):
    """The lines of loops that walk an attribute, or what lies in one, while items of an attribute are changed."""
    found = []
    for function in functions(tree):
        names = names_of_fields(function)
        for loop in ast.walk(function):
            if isinstance(loop, ast.For) and walks_field(loop.iter, names):
                if any(is_of_field(node, names) for node in changed_in(loop)):
                    found.append(loop.lineno)
    return sorted(set(found))


class LanguageTests(unittest.TestCase):
    @classmethod
    def setUpClass(cls):
        cls.texts = {path: path.read_text(encoding="utf-8") for path in files()}
        cls.trees = {path: ast.parse(text) for path, text in cls.texts.items()}

    def each(self):
        return self.trees.items()

    def test_files(self):
        for path in PACKAGE.rglob("*"):
            if "__pycache__" not in path.parts:
                self.assertRegex(path.name, r"^(__init__|[a-z][a-z0-9_]*)\.py$")
        self.assertTrue((PACKAGE / "__init__.py").exists())
        self.assertLessEqual(len(files()), 100)

    def test_size_and_characters(self):
        for path, text in self.texts.items():
            lines = text.split("\n")
            self.assertLessEqual(len(lines) - 1, 399, path)
            for line in lines:
                self.assertLessEqual(len(line), 120, path)
                self.assertRegex(line, r"^[ -~]*$", path)
            for function in functions(self.trees[path]):
                self.assertLessEqual(function.end_lineno - function.lineno + 1, 40, (path, function.name))

    def test_module_level(self):
        allowed = (ast.ImportFrom, ast.FunctionDef, ast.ClassDef, ast.Assign)
        for path, tree in self.each():
            for at, node in enumerate(tree.body):
                docstring = at == 0 and isinstance(node, ast.Expr) and isinstance(node.value, ast.Constant)
                self.assertTrue(docstring or isinstance(node, allowed), (path, node.lineno))
                if isinstance(node, ast.Assign):
                    ast.literal_eval(node.value)

    def test_imports(self):
        graph = {}
        for path, tree in self.each():
            graph[path.stem] = []
            for node in ast.walk(tree):
                if isinstance(node, ast.ImportFrom):
                    self.assertEqual(node.level, 0)
                    names = {alias.name for alias in node.names}
                    if node.module in LIBRARY:
                        self.assertLessEqual(names, LIBRARY[node.module])
                        continue
                    package, _, stem = node.module.partition(".")
                    self.assertEqual(package, "afterwise")
                    graph[path.stem].append(stem)
                    body = self.trees[PACKAGE / (stem + ".py")].body
                    defined = {item.name for item in body if isinstance(item, (ast.FunctionDef, ast.ClassDef))}
                    defined |= {item.targets[0].id for item in body if isinstance(item, ast.Assign)}
                    self.assertLessEqual(names, defined)
                    self.assertLessEqual(names, {item.id for item in ast.walk(tree) if isinstance(item, ast.Name)})
        self.assertEqual(self.files_in_a_ring(graph), [])

    def files_in_a_ring(self, graph):
        left = dict(graph)
        while True:
            ends = [stem for stem in left if not any(other in left for other in left[stem])]
            if not ends:
                return sorted(left)
            for stem in ends:
                del left[stem]

    def test_statements_and_values(self):
        for path, tree in self.each():
            for node in ast.walk(tree):
                where = (path.name, getattr(node, "lineno", None))
                self.assertNotIsInstance(node, BAD_NODES, where)
                if isinstance(node, ast.Constant):
                    self.assertNotIsInstance(node.value, (float, complex), where)
                    if isinstance(node.value, str):
                        self.assertNotIn("%", node.value, where)
                if isinstance(node, ast.Compare):
                    for sign, side in zip(node.ops, node.comparators):
                        if isinstance(sign, (ast.Is, ast.IsNot)):
                            self.assertIn(getattr(side, "value", 0), (None, True, False), where)
                if isinstance(node, ast.BinOp) and isinstance(node.op, ast.Pow):
                    self.assertIsInstance(node.right, ast.Constant, where)

    def test_names(self):
        for path, tree in self.each():
            names = bound_names(tree)
            self.assertFalse(names & set(dir(builtins)), path)
            self.assertFalse(names & (NEVER | NO_NAMES), path)
            for name in names - SPECIAL:
                self.assertRegex(name, r"^(_|_?[a-zA-Z][a-zA-Z0-9_]*)$", path)
            imported = {alias.name for node in ast.walk(tree) if isinstance(node, ast.ImportFrom) for alias in node.names}
            classes = {node.name for node in ast.walk(tree) if isinstance(node, ast.ClassDef)}
            self.assertFalse(local_names(tree) & (imported | classes), path)
            for node in ast.walk(tree):
                if isinstance(node, ast.Name) and node.id in dir(builtins):
                    self.assertIn(node.id, BUILTINS, (path, node.lineno))
                if isinstance(node, ast.Name) and isinstance(node.ctx, ast.Load):
                    self.assertNotEqual(node.id, "_", (path, node.lineno))

    def test_methods_and_attributes(self):
        own = {function.name for tree in self.trees.values() for function in functions(tree)}
        for path, tree in self.each():
            for node in ast.walk(tree):
                if isinstance(node, ast.Call) and isinstance(node.func, ast.Attribute):
                    self.assertIn(node.func.attr, METHODS | own, (path, node.lineno))
                if isinstance(node, ast.Attribute):
                    self.assertNotIn(node.attr, NEVER, (path, node.lineno))
                    if isinstance(node.ctx, ast.Store):
                        self.assertNotIn(node.attr, BUILTIN_ATTRIBUTES - ALLOWED_ATTRIBUTES, (path, node.lineno))
            for function in functions(tree):
                if function.name.startswith("__"):
                    self.assertIn(function.name, SPECIAL, path)

    def test_no_name_is_a_method_and_an_attribute_of_a_class(self):
        for path, tree in self.each():
            for node in ast.walk(tree):
                if isinstance(node, ast.ClassDef):
                    methods = [item.name for item in node.body if isinstance(item, ast.FunctionDef)]
                    attributes = {
                        item.attr for item in ast.walk(node)
                        if isinstance(item, ast.Attribute) and isinstance(item.ctx, ast.Store)
                    }
                    self.assertFalse(attributes & set(methods), (path, node.name))
                    self.assertEqual(len(methods), len(set(methods)), (path, node.name))

    def test_no_name_is_a_method_of_one_class_and_an_attribute_of_another(self):
        methods, attributes = set(), set()
        for path, tree in self.each():
            for node in ast.walk(tree):
                if isinstance(node, ast.ClassDef):
                    methods |= {item.name for item in node.body if isinstance(item, ast.FunctionDef)}
                    attributes |= {
                        item.attr for item in ast.walk(node)
                        if isinstance(item, ast.Attribute) and isinstance(item.ctx, ast.Store)
                    }
        self.assertFalse(methods & attributes)

    def test_loops_do_not_change_what_they_iterate_over(self):
        for path, tree in self.each():
            for loop in ast.walk(tree):
                if isinstance(loop, ast.For):
                    over = loop.iter
                    while isinstance(over, ast.Call) and over.args and getattr(over.func, "id", None) in ("enumerate", "zip"):
                        over = over.args[0]
                    if isinstance(over, (ast.Name, ast.Attribute)):
                        changed = [ast.dump(node) for node in changed_in(loop)]
                        self.assertNotIn(ast.dump(over), changed, (path, loop.lineno))

    def test_loops_over_fields_change_no_fields(self):
        for path, tree in self.each():
            self.assertEqual(loops_that_change_fields(tree), [], path)

    def test_which_loops_over_fields_are_found(self):
        found = [
            "for a in self.one: self.other[0].append(a)",
            "for a in self.one: self.other[a] = 0",
            "for a, b in enumerate(self.one):\n  for c in b: self.other[c].append(a)",
            "for a in self.one[0]: del self.other[a]",
            "for a in self.one if self.two else []: self.other.pop()",
            "for a in [] or self.one: self.other.clear()",
            "for a, b in self.one.items(): box.other[a] += 1",
            "for a in self.one: heappush(self.other, a)",
            "one, two = self.one, 0\nfor a in one: self.other[a] = 0",
            "other = self.other[0]\nfor a in zip([], self.one): other.append(a)",
        ]
        kept = [
            "other = []\nfor a in self.one: other.append(a)\nself.other = other",
            "for a in list(self.one): self.other[0].append(a)",
            "for a, b in enumerate(list(self.one)): self.other[a] = b",
            "for a in range(len(self.one)): self.other[a] = 0",
            "for a in self.one: self.many += 1",
            "other = list(self.other)\nfor a in self.one: other[a] = 0",
            "for a in rows: self.other.append(a)",
        ]
        for text in found + kept:
            tree = ast.parse("def told(self, rows):\n" + "\n".join(["  " + line for line in text.split("\n")]))
            self.assertEqual(loops_that_change_fields(tree) != [], text in found, text)

    def test_sets_are_only_sorted_measured_or_asked(self):
        for path, tree in self.each():
            allowed = set()
            for node in ast.walk(tree):
                if isinstance(node, ast.Call) and getattr(node.func, "id", None) in ("sorted", "len") and not node.keywords:
                    allowed |= {id(item) for item in node.args}
                elif isinstance(node, ast.Compare):
                    allowed |= {id(item) for item in [node.left, *node.comparators]}
                elif isinstance(node, ast.Assign):
                    allowed.add(id(node.value))
            for node in ast.walk(tree):
                called = isinstance(node, ast.Call) and getattr(node.func, "id", None) == "set"
                if called or isinstance(node, ast.SetComp):
                    self.assertIn(id(node), allowed, (path, node.lineno))

    def test_words_that_stand_nowhere(self):
        for path, text in self.texts.items():
            self.assertIsNone(re.search(r"_wall|_WallAttr|dataclass|overload|contextmanager", text), path)


if __name__ == "__main__":
    unittest.main()
