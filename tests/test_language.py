"""The files of the package keep to the subset of Python that they are written in, as far as a test can see."""

import ast
import builtins
import unittest
from pathlib import Path

TOP = Path(__file__).resolve().parent.parent / "sourceforms"
FILES = sorted(TOP.rglob("*.py"))

NODES = """Module Import ImportFrom alias FunctionDef ClassDef arguments arg Return Assign Expr If While For Break
Continue Pass Raise Assert Try Yield Name Attribute Subscript Slice Constant Tuple List Dict ListComp DictComp
comprehension Call keyword BinOp UnaryOp BoolOp Compare IfExp JoinedStr FormattedValue Starred
Load Store Add Sub Mult FloorDiv Mod Pow USub LShift RShift BitAnd Not And Or Eq NotEq Lt LtE Gt GtE Is IsNot In NotIn""".split()
BUILTINS = """len range enumerate zip min max sum abs sorted reversed int str bool list tuple dict set isinstance
repr any all divmod iter ValueError KeyError IndexError LookupError ArithmeticError OverflowError NotImplemented
property classmethod staticmethod""".split()
METHODS = """append clear copy count endswith extend find get index insert isdigit items join keys partition pop
remove replace reverse rfind setdefault split startswith strip update values zfill bit_length""".split()
SPECIAL = """__init__ __eq__ __str__ __len__ __iter__ __add__ __sub__ __mul__ __neg__ __contains__""".split()
WORDS = """type typing typing_extensions enum Enum IntEnum StrEnum Flag IntFlag Generic Protocol ABC ABCMeta
namedtuple NamedTuple TypedDict TYPE_CHECKING abstractmethod""".split()
BARRED = WORDS + "register mro elements open input law".split()
MATH = ("gcd", "lcm", "isqrt", "comb", "perm", "factorial")
STARTS = ("list", "dict", "tuple", "sorted")


def trees():
    for path in FILES:
        yield path, ast.parse(path.read_text(encoding="utf-8"))


def functions(tree):
    return [node for node in ast.walk(tree) if isinstance(node, ast.FunctionDef)]


def bound_names(tree):
    """All names that are given a meaning in a file, with those of attributes left out."""
    for node in ast.walk(tree):
        if isinstance(node, (ast.FunctionDef, ast.ClassDef)):
            yield node.name
        elif isinstance(node, ast.arg):
            yield node.arg
        elif isinstance(node, ast.Name) and isinstance(node.ctx, ast.Store):
            yield node.id


def module_names(tree):
    for node in tree.body:
        if isinstance(node, ast.ImportFrom):
            for alias in node.names:
                yield alias.name
        elif isinstance(node, (ast.FunctionDef, ast.ClassDef)):
            yield node.name
        elif isinstance(node, ast.Assign):
            yield node.targets[0].id


class Language(unittest.TestCase):
    def test_folder(self):
        for path in TOP.rglob("*"):
            if "__pycache__" not in path.parts:
                self.assertTrue(path.is_dir() or path.suffix == ".py", path)
                self.assertTrue(path.is_file() or (path / "__init__.py").is_file(), path)
                self.assertRegex(path.name, r"^[a-z_]+(\.py)?$")
                self.assertNotIn(path.stem, dir(builtins))
        self.assertLessEqual(len(FILES), 100)

    def test_size_and_characters(self):
        for path, tree in trees():
            text = path.read_text(encoding="utf-8")
            self.assertLessEqual(text.count("\n"), 399, path)
            self.assertTrue(all(sign == "\n" or " " <= sign <= "~" for sign in text), path)
            for at, line in enumerate(text.splitlines(), 1):
                self.assertLessEqual(len(line), 120, (path, at))
            for node in functions(tree):
                self.assertLessEqual(node.end_lineno - node.lineno + 1, 40, (path, node.name))

    def test_statements_and_expressions(self):
        for path, tree in trees():
            for node in ast.walk(tree):
                self.assertIn(node.__class__.__name__, NODES, (path, getattr(node, "lineno", 0)))
                if isinstance(node, ast.Constant):
                    self.assertIn(node.value.__class__, (int, str, bool, None.__class__), (path, node.lineno))
                if isinstance(node, ast.BinOp) and isinstance(node.op, ast.Pow):
                    self.assertIsInstance(node.right, ast.Constant)
                    self.assertIn(node.right.value, range(65), (path, node.lineno))

    def test_module_level(self):
        for path, tree in trees():
            kinds = [node.__class__ for node in tree.body]
            for at, node in enumerate(tree.body):
                if isinstance(node, ast.Expr):
                    self.assertEqual(at, 0, (path, node.lineno))
                else:
                    self.assertIn(node.__class__, (ast.ImportFrom, ast.FunctionDef, ast.ClassDef, ast.Assign))
            late = [at for at, kind in enumerate(kinds) if kind is ast.ImportFrom]
            early = [at for at, kind in enumerate(kinds) if kind not in (ast.ImportFrom, ast.Expr)]
            self.assertTrue(not late or not early or max(late) < min(early), path)
            names = list(module_names(tree))
            self.assertEqual(len(names), len(set(names)), path)

    def test_imports(self):
        seen = {}
        for path, tree in trees():
            name = ".".join(("sourceforms",) + path.relative_to(TOP).with_suffix("").parts)
            seen[name] = set()
            for node in tree.body:
                if not isinstance(node, ast.ImportFrom):
                    continue
                self.assertEqual(node.level, 0)
                self.assertTrue(all(alias.asname is None for alias in node.names), path)
                if node.module == "math":
                    self.assertLessEqual({alias.name for alias in node.names}, set(MATH), path)
                    continue
                seen[name].add(node.module)
                other = ast.parse((TOP.parent / Path(*node.module.split("."))).with_suffix(".py").read_text())
                there = [part.name for part in other.body if isinstance(part, (ast.FunctionDef, ast.ClassDef))]
                there += [part.targets[0].id for part in other.body if isinstance(part, ast.Assign)]
                self.assertLessEqual({alias.name for alias in node.names}, set(there), path)
        while seen:
            ended = [name for name, wanted in seen.items() if not wanted & set(seen)]
            self.assertTrue(ended, seen)
            for name in ended:
                del seen[name]

    def test_each_import_is_used(self):
        for path, tree in trees():
            used = {node.id for node in ast.walk(tree) if isinstance(node, ast.Name)}
            for node in tree.body:
                if isinstance(node, ast.ImportFrom):
                    for alias in node.names:
                        self.assertIn(alias.name, used, path)

    def test_names(self):
        for path, tree in trees():
            imports = {a.name for node in tree.body if isinstance(node, ast.ImportFrom) for a in node.names}
            classes = {node.name for node in ast.walk(tree) if isinstance(node, ast.ClassDef)}
            outside = {node.name for node in tree.body if isinstance(node, (ast.FunctionDef, ast.ClassDef))}
            for name in bound_names(tree):
                self.assertNotIn(name, imports, path)
                self.assertNotIn(name, dir(builtins), path)
                self.assertNotIn(name, BARRED, path)
                self.assertRegex(name, r"^(_?[A-Za-z][A-Za-z0-9_]*|_|__[a-z]+__)$")
                if name.startswith("__"):
                    self.assertIn(name, SPECIAL, path)
            for node in ast.walk(tree):
                if isinstance(node, ast.arg) or isinstance(node, ast.Name) and isinstance(node.ctx, ast.Store):
                    self.assertNotIn(getattr(node, "arg", None) or node.id, classes)
                if isinstance(node, ast.Attribute):
                    self.assertNotIn(node.attr, BARRED, path)
            self.assertEqual(outside & imports, set())

    def test_builtins_and_methods(self):
        own = set()
        for _, tree in trees():
            for node in functions(tree):
                own.add(node.name)
            for node in ast.walk(tree):
                if isinstance(node, ast.Attribute) and isinstance(node.ctx, ast.Store):
                    own.add(node.attr)
        for path, tree in trees():
            here = set(bound_names(tree)) | set(module_names(tree))
            for node in ast.walk(tree):
                if isinstance(node, ast.Name) and node.id not in here:
                    self.assertIn(node.id, BUILTINS, (path, node.lineno))
                if isinstance(node, ast.Attribute) and node.attr not in own:
                    self.assertIn(node.attr, METHODS, (path, node.lineno))

    def test_strings(self):
        for path, tree in trees():
            notes = {id(node.body[0].value) for node in ast.walk(tree)
                     if isinstance(node, (ast.Module, ast.ClassDef, ast.FunctionDef)) and node.body
                     and isinstance(node.body[0], ast.Expr)}
            for node in ast.walk(tree):
                if isinstance(node, ast.Constant) and isinstance(node.value, str) and id(node) not in notes:
                    self.assertNotIn("%", node.value)
                    self.assertNotIn("__", node.value)
                    self.assertFalse(set(node.value.split()) & set(WORDS), (path, node.lineno))

    def test_decorators_and_parameters(self):
        for path, tree in trees():
            for node in ast.walk(tree):
                if isinstance(node, ast.ClassDef):
                    self.assertEqual(node.decorator_list + node.keywords, [])
                    self.assertLessEqual(len(node.bases), 1)
                if isinstance(node, ast.FunctionDef):
                    self.assertLessEqual(len(node.decorator_list), 1)
                    for part in node.decorator_list:
                        self.assertIn(part.id, ("property", "classmethod", "staticmethod"))
                    self.assertIsNone(node.returns)
                    self.assertTrue(all(part.annotation is None for part in node.args.args), path)
                if isinstance(node, ast.FunctionDef):
                    inner = [part for part in ast.walk(node) if isinstance(part, ast.FunctionDef)]
                    self.assertEqual(inner, [node], path)

    def test_loops_leave_what_they_go_over(self):
        for path, tree in trees():
            for node in ast.walk(tree):
                if not isinstance(node, ast.For):
                    continue
                over = {part.id for part in ast.walk(node.iter) if isinstance(part, ast.Name)}
                for part in ast.walk(ast.Module(body=node.body, type_ignores=[])):
                    if isinstance(part, ast.Subscript) and isinstance(part.ctx, ast.Store):
                        if isinstance(part.value, ast.Name):
                            self.assertNotIn(part.value.id, over, (path, part.lineno))
                    if isinstance(part, ast.Call) and isinstance(part.func, ast.Attribute):
                        if part.func.attr in ("append", "pop", "extend", "insert", "remove", "update"):
                            if isinstance(part.func.value, ast.Name):
                                self.assertNotIn(part.func.value.id, over, (path, part.lineno))

    def test_loops_leave_what_becomes_the_list_they_go_over(self):
        """Where two names stand for one list by an assignment, none of them is changed in a loop over the other one."""
        for path, tree in trees():
            for function in functions(tree):
                same = names_for_one(function)
                for node in ast.walk(function):
                    if isinstance(node, ast.For):
                        over = set().union(*[same.get(name, {name}) for name in names_gone_over(node.iter)])
                        for target, line in changed_targets(ast.Module(body=node.body, type_ignores=[])):
                            self.assertNotIn(target, over, (path, line))

    def test_what_is_changed_is_new(self):
        """Items are assigned, and methods that modify are called, only where the function made the list or dict.

        Where an operator, a property or `__eq__` and the like get there, it is only ever assigned such a new one.
        """
        strict = called_by_signs()
        for path, tree in trees():
            for function in functions(tree):
                made = {}
                for node in ast.walk(function):
                    if isinstance(node, ast.Assign) and isinstance(node.targets[0], ast.Name):
                        made.setdefault(node.targets[0].id, []).append(is_new(node.value))
                for target, line in changed_targets(function):
                    here = made.get(target, [False])
                    self.assertTrue(all(here) if function.name in strict else any(here), (path, line, target))

    def test_no_list_is_multiplied(self):
        """Beside an own `*` a list that is made with this sign is not taken as surely new (L5)."""
        for path, tree in trees():
            for node in ast.walk(tree):
                if isinstance(node, ast.BinOp) and isinstance(node.op, ast.Mult):
                    for part in (node.left, node.right):
                        self.assertNotIsInstance(part, (ast.List, ast.ListComp), (path, node.lineno))


def names_gone_over(node):
    """The names of what a loop goes over itself; what is copied first is left out."""
    if isinstance(node, ast.Call):
        if isinstance(node.func, ast.Attribute):
            return names_gone_over(node.func.value)
        if node.func.id not in ("enumerate", "zip", "reversed"):
            return []
        return [name for part in node.args for name in names_gone_over(part)]
    if isinstance(node, ast.Subscript):
        return names_gone_over(node.value)
    return [node.id] if isinstance(node, ast.Name) else []


def names_for_one(function):
    """For each name the set of all names that some assignments or `append` of a function make stand for one value."""
    found = {}
    for node in ast.walk(function):
        pairs = []
        if isinstance(node, ast.Assign):
            for target in node.targets:
                if isinstance(target, ast.Tuple) and isinstance(node.value, ast.Tuple):
                    pairs += list(zip(target.elts, node.value.elts))
                else:
                    pairs.append((target, node.value))
        if isinstance(node, ast.Call) and isinstance(node.func, ast.Attribute) and node.func.attr == "append":
            pairs.append((node.func.value, node.args[0]))
        for one, other in pairs:
            if isinstance(one, ast.Name) and isinstance(other, ast.Name):
                both = found.get(one.id, {one.id}) | found.get(other.id, {other.id})
                for name in both:
                    found[name] = both
    return found


def changed_targets(function):
    """The names of the lists and dicts that a function changes, with the lines."""
    for node in ast.walk(function):
        target = None
        if isinstance(node, ast.Subscript) and isinstance(node.ctx, ast.Store):
            target = node.value
            while isinstance(target, ast.Subscript):
                target = target.value
        if isinstance(node, ast.Call) and isinstance(node.func, ast.Attribute):
            if node.func.attr in ("append", "pop", "extend", "insert", "remove", "update", "setdefault", "clear"):
                target = node.func.value
        if isinstance(target, ast.Name):
            yield target.id, node.lineno


def called_by_signs():
    """The names of all functions that an operator, a property, `__eq__` and the like call, through others, too."""
    bodies, left = {}, []
    for _, tree in trees():
        for function in functions(tree):
            bodies.setdefault(function.name, []).append(function)
            marks = [part.id for part in function.decorator_list]
            if "property" in marks or function.name.startswith("__") and function.name != "__init__":
                left.append(function.name)
    found = set()
    while left:
        name = left.pop()
        if name in bodies and name not in found:
            found.add(name)
            for function in bodies[name]:
                for node in ast.walk(function):
                    if isinstance(node, ast.Call):
                        left.append(getattr(node.func, "id", None) or getattr(node.func, "attr", None))
    return found


def is_new(value):
    if isinstance(value, (ast.List, ast.Dict, ast.ListComp, ast.DictComp)):
        return True
    return isinstance(value, ast.Call) and isinstance(value.func, ast.Name) and value.func.id in STARTS


if __name__ == "__main__":
    unittest.main()
