"""The mechanical rules of the Python subset that the files of the package are written in.

Each test names its rules. Rules that need a reader's judgement are not looked at here; some that
are looked at are kept more strictly than they are written, because that is easier to see.
"""

import ast
import pathlib
import re
import unittest

PACKAGE = pathlib.Path(__file__).resolve().parent.parent / "everyname"
FILES = sorted(PACKAGE.rglob("*.py"))

BUILTINS = set("""len range enumerate zip min max sum abs sorted reversed int str bool bytes list tuple dict set
    frozenset isinstance ord repr any all divmod pow getattr hasattr setattr iter next map super property staticmethod
    classmethod Exception ValueError TypeError KeyError IndexError LookupError ZeroDivisionError ArithmeticError
    OverflowError RuntimeError NotImplementedError AttributeError StopIteration NotImplemented""".split())
LIBRARY = {"heapq": {"heappush", "heappop", "heapify", "heapreplace", "heappushpop"},
           "math": {"gcd", "lcm", "isqrt", "comb", "perm", "factorial"},
           "collections": {"defaultdict"}, "__future__": {"annotations"},
           "itertools": {"product", "combinations", "permutations", "chain", "accumulate", "pairwise", "islice",
                         "zip_longest"}}
BINARY = set("""lt le gt ge ne eq add sub mul floordiv mod pow and or xor lshift rshift radd rsub rmul rfloordiv rmod
    rand ror rxor rlshift rrshift iadd isub imul ifloordiv imod ipow iand ior ixor ilshift irshift""".split())
UNARY = set("neg pos invert abs bool repr str len enter iter".split())
NOWHERE = {"register", "mro", "elements", "open", "input", "law", "version_info", "with_traceback", "add_note"}
WORDS = set("""type typing typing_extensions enum Enum IntEnum StrEnum Flag IntFlag Generic Protocol ABC ABCMeta
    namedtuple NamedTuple TypedDict TYPE_CHECKING abstractmethod dataclass overload contextmanager""".split())


def nodes(kind):
    """Every node of a kind, with the file that it stands in."""
    for file in FILES:
        for node in ast.walk(ast.parse(file.read_text())):
            if isinstance(node, kind):
                yield file, node


def docstrings(tree):
    """The nodes of all docstrings of a file."""
    found = []
    for node in ast.walk(tree):
        if isinstance(node, (ast.Module, ast.ClassDef, ast.FunctionDef)) and ast.get_docstring(node, clean=False):
            found.append(node.body[0].value)
    return found


def bound_names(tree):
    """All names that a file binds, but for attributes."""
    for node in ast.walk(tree):
        if isinstance(node, ast.Name) and isinstance(node.ctx, ast.Store):
            yield node.id
        elif isinstance(node, ast.arg):
            yield node.arg
        elif isinstance(node, (ast.FunctionDef, ast.ClassDef)):
            yield node.name
        elif isinstance(node, ast.alias):
            yield node.asname or node.name
        elif isinstance(node, ast.ExceptHandler) and node.name:
            yield node.name


CHANGING = set("""append clear extend insert pop remove reverse setdefault update sort add discard""".split())
# Methods of a world and of its attempts that change it or call what they are passed.
CHANGING_METHODS = {"_done", "undo", "attempt", "keep"}
IN_PLACE = {f"__{word}__" for word in BINARY if word[0] == "i"} | {"__setitem__", "__init__"}


def root(node):
    """The name that an item, an attribute or a call of a method begins with, and the number of steps from it."""
    steps = 0
    while isinstance(node, (ast.Subscript, ast.Attribute, ast.Call)):
        steps += isinstance(node, (ast.Subscript, ast.Call))
        node = node.func.value if isinstance(node, ast.Call) and isinstance(node.func, ast.Attribute) else (
            node.func if isinstance(node, ast.Call) else node.value)
    return (node.id if isinstance(node, ast.Name) else None), steps


def changed_names(function):
    """The names of what a function changes, with the lines where it does, and whether it is an item's item."""
    for node in ast.walk(function):
        targets = []
        if isinstance(node, ast.Assign):
            targets = [part for target in node.targets for part in ast.walk(target)]
        elif isinstance(node, ast.AugAssign):
            targets = [node.target]
        elif isinstance(node, ast.Delete):
            targets = node.targets
        for target in targets:
            if isinstance(target, (ast.Subscript, ast.Attribute)) and not isinstance(target.ctx, ast.Load):
                name, steps = root(target)
                yield name, node.lineno, steps > 1
        if isinstance(node, ast.Call) and isinstance(node.func, ast.Attribute) and node.func.attr in CHANGING:
            name, steps = root(node.func.value)
            yield name, node.lineno, steps > 0


def is_new(node):
    """Tell whether an expression surely gives a list, dict, set or own object that nothing else has.

    A product gives none, and a sum only if both sides do: classes of the package have their own `*` and `+`.
    """
    if isinstance(node, ast.BinOp):
        return isinstance(node.op, ast.Add) and is_new(node.left) and is_new(node.right)
    if isinstance(node, ast.Call):
        return ast.unparse(node.func) in ("list", "dict", "set", "sorted", "Family", "World")
    return isinstance(node, (ast.List, ast.Dict, ast.ListComp, ast.DictComp, ast.Set, ast.SetComp))


def has_new_items(node):
    """Tell whether an expression surely gives a list or dict all of whose items are new."""
    if isinstance(node, ast.ListComp):
        return is_new(node.elt)
    if isinstance(node, ast.DictComp):
        return is_new(node.value)
    return isinstance(node, (ast.List, ast.Dict)) and all(map(is_new, getattr(node, "elts", None) or getattr(node, "values", ())))


def worths(function, name):
    """What a function assigns to a variable."""
    return [node.value for node in ast.walk(function) if isinstance(node, (ast.Assign, ast.AugAssign))
            for target in getattr(node, "targets", None) or [node.target]
            if name in [part.id for part in ast.walk(target) if isinstance(part, ast.Name)]
            and not isinstance(target, (ast.Subscript, ast.Attribute))]


def put_inside(function, name):
    """What a function makes an item of a variable's list or dict: by an assignment or by setdefault."""
    for node in ast.walk(function):
        if isinstance(node, ast.Assign):
            for target in node.targets:
                if isinstance(target, ast.Subscript) and root(target) == (name, 1):
                    yield node.value
        elif isinstance(node, ast.Call) and isinstance(node.func, ast.Attribute) and root(node.func.value) == (name, 0):
            if node.func.attr in ("setdefault", "append", "insert", "extend", "update"):
                yield node.args[-1]


def passed_names(function):
    """The parameters of a function and the variables of its loops and comprehensions."""
    targets = [node.target for node in ast.walk(function) if isinstance(node, (ast.For, ast.comprehension))]
    return {name for part in [function.args] + targets for name in bound_names(part)}


def changed_but_not_made(function):
    """The lines at which a function changes what it did not surely make itself (L5 Operators, L28)."""
    found = []
    for name, line, is_inner in changed_names(function):
        made = worths(function, name)
        fine = bool(made) and all(map(is_new, made)) and name not in passed_names(function)
        if is_inner:
            fine = fine and all(map(has_new_items, made)) and all(map(is_new, put_inside(function, name)))
        if not fine:
            found.append(line)
    return found


def extended_by_others(tree):
    """The lines at which extend, update, += or |= get what is not surely another thing than what they change.

    Kept more strictly than L5 Iteration and L23 ask for: they get what is made on the spot, or a literal.
    """
    found = []
    for node in ast.walk(tree):
        given = []
        if isinstance(node, ast.Call) and isinstance(node.func, ast.Attribute) and node.func.attr in ("extend", "update"):
            given = node.args
        elif isinstance(node, ast.AugAssign):
            given = [node.value]
        found.extend(node.lineno for part in given if not is_new(part) and not isinstance(part, ast.Constant))
    return found


WALKS = ("list", "tuple", "dict", "sorted", "sum", "any", "all", "enumerate", "zip", "bytes", "min", "max")


def is_walk(node):
    """Tell whether a call gives what is to be walked on the spot."""
    if isinstance(node.func, ast.Name):
        return node.func.id in ("range", "zip", "enumerate", "reversed")
    return isinstance(node.func, ast.Attribute) and node.func.attr in ("items", "keys", "values") and not node.args


def walking_places(node):
    """The nodes below a node that are walked on the spot."""
    if isinstance(node, (ast.For, ast.comprehension)):
        return [node.iter]
    if isinstance(node, ast.Compare):
        # k in d.keys() and k in range(3) may stand, but not k in d.values().
        return [right for sign, right in zip(node.ops, node.comparators) if isinstance(sign, (ast.In, ast.NotIn))
                and ast.unparse(right.func if isinstance(right, ast.Call) else right).split(".")[-1] in ("keys", "range")]
    if not isinstance(node, ast.Call) or not node.args:
        return []
    word = node.func.id if isinstance(node.func, ast.Name) else None
    if word in ("min", "max"):
        return node.args if len(node.args) == 1 and all(part.arg == "default" for part in node.keywords) else []
    if word == "zip":
        return node.args
    if word in WALKS:
        return node.args[:1]
    if word in ("len", "reversed"):
        allowed = ("range", "items") if word == "len" else ("range",)
        return [part for part in node.args if isinstance(part, ast.Call) and ast.unparse(part.func).split(".")[-1] in allowed]
    if isinstance(node.func, ast.Attribute) and node.func.attr == "join" and isinstance(node.func.value, ast.Constant):
        return node.args
    return []


def walked_elsewhere(tree):
    """The lines of ranges, zips, views and the like that stand where they are not walked on the spot.

    A variable that keeps one (L23, Kept ranges) is taken for such a place, too: the package has none.
    """
    fine = {id(part) for node in ast.walk(tree) for part in walking_places(node)}
    return [node.lineno for node in ast.walk(tree) if isinstance(node, ast.Call) and is_walk(node) and id(node) not in fine]


class LanguageTest(unittest.TestCase):
    def assertNone(self, found):
        self.assertEqual([(file.name, getattr(node, "lineno", node)) for file, node in found], [])

    def test_files(self):
        """L1, L10, L14"""
        for path in PACKAGE.rglob("*"):
            if "__pycache__" in path.parts:
                continue
            self.assertTrue(path.is_dir() or re.fullmatch(r"[a-z_][a-z0-9_]*\.py", path.name), path)
            self.assertFalse(re.match(r"test|law_|site|conftest|usercustomize", path.name), path)
        for file in FILES:
            text = file.read_text()
            self.assertTrue(all(" " <= mark <= "~" or mark == "\n" for mark in text), file)
            self.assertLessEqual(len(text.splitlines()), 399, file)
            self.assertLessEqual(max(map(len, text.splitlines())), 120, file)
        for file, node in nodes(ast.FunctionDef):
            self.assertLessEqual(node.end_lineno - node.lineno + 1, 40, (file, node.name))

    def test_imports(self):
        """L2, L16"""
        self.assertNone(nodes(ast.Import))
        own = {file.stem for file in FILES}
        for file, node in nodes(ast.ImportFrom):
            self.assertEqual(node.level, 0)
            for alias in node.names:
                if node.module in LIBRARY:
                    self.assertIn(alias.name, LIBRARY[node.module], file)
                    self.assertIsNone(alias.asname)
                else:
                    package, module = node.module.split(".")
                    self.assertEqual(package, "everyname")
                    self.assertIn(module, own)
                    self.assertIn(alias.name, set(bound_names(ast.parse((PACKAGE / f"{module}.py").read_text()))))

    def test_imports_are_used(self):
        for file in FILES:
            tree = ast.parse(file.read_text())
            imported = {alias.name for node in tree.body if isinstance(node, ast.ImportFrom) for alias in node.names}
            self.assertEqual(imported - {node.id for node in ast.walk(tree) if isinstance(node, ast.Name)}, set(), file)

    def test_no_circular_imports(self):
        """L16"""
        needs = {file.stem: set() for file in FILES}
        for file, node in nodes(ast.ImportFrom):
            if node.module.startswith("everyname."):
                needs[file.stem].add(node.module.split(".")[1])
        while needs:
            free = [name for name in needs if not needs[name] & set(needs)]
            self.assertTrue(free, needs)
            for name in free:
                del needs[name]

    def test_module_level(self):
        """L3, L15"""
        for file in FILES:
            tree = ast.parse(file.read_text())
            plain = (ast.ImportFrom, ast.FunctionDef, ast.ClassDef, ast.Assign)
            for node in tree.body[1:] if ast.get_docstring(tree) else tree.body:
                self.assertIsInstance(node, plain, (file, node.lineno))
            bound = [name for node in tree.body for name in (
                [alias.name for alias in node.names] if isinstance(node, ast.ImportFrom) else
                [node.name] if isinstance(node, (ast.FunctionDef, ast.ClassDef)) else
                [target.id for target in node.targets] if isinstance(node, ast.Assign) else [])]
            self.assertEqual(len(bound), len(set(bound)), file)
            inner = {name for node in ast.walk(tree) if isinstance(node, ast.FunctionDef)
                     for part in node.body + [node.args] for name in bound_names(part)}
            used = {node.name for node in tree.body if isinstance(node, ast.ClassDef)}
            used |= {alias.name for node in tree.body if isinstance(node, ast.ImportFrom) for alias in node.names}
            self.assertEqual(inner & used, set(), file)

    def test_functions_and_classes(self):
        """L4, L5, L28"""
        for file, node in nodes(ast.FunctionDef):
            for decorator in node.decorator_list:
                text = ast.unparse(decorator)
                self.assertTrue(text in ("property", "staticmethod", "classmethod") or text.endswith(".setter"))
            if not node.name.startswith("__"):
                continue
            word = node.name.strip("_")
            names = [arg.arg for arg in node.args.args]
            if word in BINARY:
                self.assertEqual(names, ["self", "other"], (file, node.lineno))
            elif word in UNARY:
                self.assertEqual(names, ["self"], (file, node.lineno))
            elif word == "contains":
                self.assertEqual(names, ["self", "x"], (file, node.lineno))
            elif word == "getitem":
                self.assertEqual(names, ["self", "at"], (file, node.lineno))
            elif word == "setitem":
                self.assertEqual(names, ["self", "at", "worth"], (file, node.lineno))
            else:
                self.assertIn(word, ("init", "call", "exit"), (file, node.lineno))
        for file, node in nodes(ast.ClassDef):
            self.assertEqual(node.decorator_list, [])

    def test_statements_and_values(self):
        """L6, L7, L19, L20, L24, L27"""
        self.assertNone(nodes((ast.Global, ast.AsyncFunctionDef, ast.Await, ast.GeneratorExp, ast.Div)))
        self.assertNone((file, node) for file, node in nodes(ast.Constant)
                        if isinstance(node.value, (float, complex)) or isinstance(node.value, str) and "%" in node.value)
        self.assertNone((file, node) for file, node in nodes(ast.Compare)
                        for sign, right in zip(node.ops, node.comparators)
                        if isinstance(sign, (ast.Is, ast.IsNot)) and not isinstance(right, ast.Constant))
        self.assertNone((file, node) for file, node in nodes(ast.AugAssign)
                        if not isinstance(node.value, ast.Constant) or not isinstance(node.op, ast.Add))
        self.assertNone((file, node) for file, node in nodes(ast.BinOp)
                        if isinstance(node.op, ast.Pow) and not isinstance(node.right, ast.Constant))
        self.assertNone((file, node) for file, node in nodes(ast.ExceptHandler) if node.type is None)

    def test_methods_that_change_are_run_by_no_operator(self):
        """L5 Operators: neither an operator nor a property runs one of CHANGING_METHODS, told by their names."""
        calls, waiting = {}, []
        for _, function in nodes(ast.FunctionDef):
            found = calls.setdefault(function.name, set())
            for node in ast.walk(function):
                if isinstance(node, ast.Attribute):
                    found.add(node.attr)
                elif isinstance(node, ast.Call) and isinstance(node.func, ast.Name):
                    found.add(node.func.id)
            is_operator = function.name in {f"__{word}__" for word in BINARY | UNARY | {"contains", "getitem"}} - IN_PLACE
            if is_operator or any(ast.unparse(part) == "property" for part in function.decorator_list):
                waiting.append(function.name)
        reached = set()
        while waiting:
            name = waiting.pop()
            if name not in reached:
                reached.add(name)
                waiting.extend(calls.get(name, ()))
        self.assertIn("tree_value", reached)
        self.assertEqual(reached & CHANGING_METHODS, set())

    def test_functions_change_what_they_made_alone(self):
        """L5 Operators, L28: what operators and properties run changes no other thing (here: little else does)."""
        for file, function in nodes(ast.FunctionDef):
            if function.name not in IN_PLACE | CHANGING_METHODS:
                self.assertEqual(changed_but_not_made(function), [], file)

    def test_what_is_changed_but_not_made_is_found(self):
        for text in ("found = [()] * len(xs)\nfound[at] = 1", "found = len(xs) * [()]\nfound[at] = 1", "xs[0] = 1", "del xs[0]",
                     "found = xs\nfound.append(1)", "found = [] + xs\nfound.append(1)", "found = [0] * 3 + [1]\nfound[0] = 1",
                     "found = [] if xs else [1]\nfound.pop()", "found = []\nfound = xs\nfound.append(1)", "xs.n = 1",
                     "found = [x for x in xs]\nfound[0].append(1)", "found = {}\nfound[0] = xs\nfound[0][1] = 2",
                     "found = {}\nfound.setdefault(0, xs).append(1)", "found = []\nfound.append(xs)\nfound[0].append(1)",
                     "found = [[]] * 3\nfound[0].append(1)", "a, b = [], xs\nb.append(1)", "xs[0] += 1",
                     "for x in xs:\n    x.append(1)", "found = tuple(xs)\nfound.n = 1", "xs = []\nxs.append(1)",
                     "found = []\nfor found in xs:\n    found.append(1)"):
            function = ast.parse("def f(xs):\n    " + text.replace("\n", "\n    ")).body[0]
            self.assertEqual(len(changed_but_not_made(function)), 1, text)
        for text in ("found = [() for _ in xs]\nfound[at] = 1", "found = []\nfound.append(xs)", "found = list(xs)\nfound[0] = 1",
                     "found = [0] + list(xs)\nfound.pop()", "found = sorted(xs)\ndel found[0]", "found = {}\nfound[0] = xs",
                     "found = [[] for x in xs]\nfound[0].append(1)", "found = {}\nfound.setdefault(0, []).append(1)",
                     "found = {}\nfound[0] = []\nfound[0].append(1)", "world = World(xs)\nworld.n = 1", "found = xs + [1]"):
            function = ast.parse("def f(xs):\n    " + text.replace("\n", "\n    ")).body[0]
            self.assertEqual(changed_but_not_made(function), [], text)

    def test_what_lists_are_extended_by(self):
        """L5 Iteration, L23: extend, update, += and |= do not get what they change, nor what was taken out of it."""
        for file in FILES:
            self.assertEqual(extended_by_others(ast.parse(file.read_text())), [], file)

    def test_what_lists_are_extended_by_is_found(self):
        for text in ("waiting.extend(parts)", "waiting.extend(waiting[0])", "xs.extend(xs)", "d.update(d)", "xs += ys", "d |= e",
                     "xs.extend(parts_of(xs[0]))", "xs.extend(ys or [1])", "xs.extend((*xs, 1))", "box.rows.extend(box.rows)"):
            self.assertEqual(len(extended_by_others(ast.parse(text))), 1, text)
        for text in ("waiting.extend(list(parts))", "xs.extend([x for x in xs])", "xs.extend([1, 2])", "d.update(dict(e))",
                     "k += 1", "text += 'a'", "xs += list(ys)", "xs = xs + ys"):
            self.assertEqual(extended_by_others(ast.parse(text)), [], text)

    def test_functions_call_nothing_that_they_are_passed(self):
        """L5 Operators"""
        for file, function in nodes(ast.FunctionDef):
            if function.name in CHANGING_METHODS:
                continue
            local = set(bound_names(function.args)) | {name for part in function.body for name in bound_names(part)}
            for node in ast.walk(function):
                if isinstance(node, ast.Call) and isinstance(node.func, ast.Name):
                    self.assertNotIn(node.func.id, local - {"cls"}, (file, node.lineno))

    def test_what_is_ordered(self):
        """L5 Operators: beside order methods, sorted, min and max take what is plainly numbers or strings."""
        def plain(node):
            if isinstance(node, ast.ListComp):
                return plain(node.elt)
            if isinstance(node, ast.Constant):
                return True
            return isinstance(node, ast.Call) and ast.unparse(node.func) in ("int", "str", "len", "ord", "repr", "range")
        for file, node in nodes(ast.Call):
            if ast.unparse(node.func) in ("sorted", "min", "max"):
                self.assertTrue(any(map(plain, node.args)), (file, node.lineno))
            self.assertNotEqual(ast.unparse(node.func).split(".")[-1], "sort", (file, node.lineno))

    def test_what_is_iterated_at_once(self):
        """L23: a range, a zip, an enumerate, a reversed or a view stands only where it is walked on the spot."""
        for file in FILES:
            self.assertEqual(walked_elsewhere(ast.parse(file.read_text())), [], file)

    def test_what_is_iterated_at_once_is_found(self):
        for text in ("xs.extend(d.values())", "xs.extend(range(3))", "d.update(zip(a, b))", "x = f(d.items())", "x = d.keys()",
                     "def f():\n    return enumerate(xs)", "x = [zip(a, b)]", "x = len(d.values())", "x = list(reversed(d.items()))",
                     "x = d.values() == e", "x = [*d.values()]", "x = max(d.values(), 1)", "x = sep.join(d.values())",
                     "x = set(d.values())", "x = dict(sorted(xs), at=d.items())"):
            self.assertEqual(len(walked_elsewhere(ast.parse(text))), 1, text)
        for text in ("for x in d.values():\n    pass", "x = [k for k, v in d.items() for j in range(k)]", "xs.extend(list(d.values()))",
                     "x = sorted(zip(a, b))", "x = list(enumerate(zip(a, b)))", "x = len(range(3))", "x = list(reversed(range(3)))",
                     "x = k in d.keys()", "x = max(d.values(), default=0)", "x = ', '.join(d.keys())", "x = len(d.items())",
                     "x = world.values(3)"):
            self.assertEqual(walked_elsewhere(ast.parse(text)), [], text)

    def test_names(self):
        """L8, L12, L15, L17"""
        python_names = set(dir(__builtins__)) if not isinstance(__builtins__, dict) else set(__builtins__)
        # Where a doctest was run before, Python has the name _, too.
        python_names.discard("_")
        for file in FILES:
            tree = ast.parse(file.read_text())
            bound = set(bound_names(tree))
            methods = {part.name for node in ast.walk(tree) if isinstance(node, ast.ClassDef)
                       for part in node.body if isinstance(part, ast.FunctionDef)}
            self.assertEqual((bound - methods) & python_names, set(), file)
            loaded = {node.id for node in ast.walk(tree) if isinstance(node, ast.Name)}
            self.assertEqual(loaded - bound - BUILTINS - {"property"}, set(), file)
            attributes = {node.attr for node in ast.walk(tree) if isinstance(node, ast.Attribute)}
            self.assertEqual((bound | attributes) & NOWHERE, set(), file)
            for name in bound - methods | attributes:
                self.assertRegex(name, r"\A(_|_?[A-Za-z][A-Za-z0-9_]*|__all__|__version__)\Z", file)

    def test_words(self):
        """L17: these words stand in comments and docstrings alone."""
        for file in FILES:
            tree = ast.parse(file.read_text())
            ignored = set(map(id, docstrings(tree)))
            words = set(bound_names(tree))
            for node in ast.walk(tree):
                if isinstance(node, ast.Constant) and isinstance(node.value, str) and id(node) not in ignored:
                    words |= set(re.findall(r"\w+", node.value))
                elif isinstance(node, (ast.Name, ast.Attribute)):
                    words.add(node.id if isinstance(node, ast.Name) else node.attr)
            self.assertEqual(words & WORDS, set(), file)


if __name__ == "__main__":
    unittest.main()
