"""The rules of the language that a look at the code can check, for every file of the package."""

import ast
import builtins
import os
import re
import unittest

ROOT = os.path.dirname(os.path.dirname(os.path.abspath(__file__)))
PACKAGE = os.path.join(ROOT, "pagestack")

BUILTINS = set(
    "len range enumerate zip min max sum abs sorted reversed int str bool list tuple dict set isinstance ord repr "
    "any all divmod iter next map Exception ValueError TypeError KeyError IndexError LookupError "
    "ZeroDivisionError ArithmeticError OverflowError RuntimeError NotImplementedError AttributeError "
    "StopIteration NotImplemented".split()
)
METHODS = set(
    "append clear copy count endswith extend find get index insert isalnum isalpha isdigit islower isspace isupper "
    "items join keys ljust lower lstrip partition pop remove replace reverse rfind rjust rpartition rsplit rstrip "
    "setdefault split splitlines startswith strip update upper values zfill bit_length "
    "title capitalize swapcase casefold center expandtabs removeprefix removesuffix rindex isascii isdecimal "
    "isnumeric istitle isidentifier isprintable".split()
)
STRING_METHODS = set(dir(str)) | set(dir(list)) | set(dir(dict)) | set(dir(set)) | set(dir(int)) | set(dir(bytes))
FREE_METHODS = METHODS | {"add", "discard"}
FREE_ATTRIBUTES = set("count index title find get join lower upper split strip copy add".split())
NOWHERE = set("mro elements open input law version_info with_traceback add_note register".split())
NO_NAMES = set(
    "attrgetter breakpoint builtins compile copyright credits delattr dir eval exec exit gc getattr globals hasattr "
    "help id importlib license locals methodcaller os quit setattr super type vars sys".split()
)
NO_WORDS = set("typing enum Enum IntEnum StrEnum Flag IntFlag Generic Protocol ABC ABCMeta namedtuple".split())
STATEMENTS = (
    ast.Assign, ast.AugAssign, ast.If, ast.While, ast.For, ast.Return, ast.Break, ast.Continue, ast.Pass, ast.Raise,
    ast.Assert, ast.Delete, ast.Try, ast.Expr, ast.FunctionDef, ast.ClassDef, ast.ImportFrom,
)
DUNDERS = {"__init__"}


def files():
    """Return (module name, path) of all files of the package."""
    return [(name[:-3], os.path.join(PACKAGE, name)) for name in sorted(os.listdir(PACKAGE)) if name.endswith(".py")]


def trees():
    """Return (module name, syntax tree) of all files of the package."""
    found = []
    for name, path in files():
        with open(path, encoding="utf-8") as file:
            found.append((name, ast.parse(file.read())))
    return found


def functions(tree):
    """Return all functions of a tree, methods too."""
    return [node for node in ast.walk(tree) if isinstance(node, ast.FunctionDef)]


def bound_names(tree):
    """Return (name, line) of all that is bound in a tree."""
    found = []
    for node in ast.walk(tree):
        if isinstance(node, ast.arg):
            found.append((node.arg, node.lineno))
        elif isinstance(node, ast.Name) and isinstance(node.ctx, ast.Store):
            found.append((node.id, node.lineno))
        elif isinstance(node, (ast.FunctionDef, ast.ClassDef)):
            found.append((node.name, node.lineno))
    return found


def plain_value(node):
    """Return True for a literal that may stand at module level."""
    if isinstance(node, ast.Constant):
        return not isinstance(node.value, float)
    if isinstance(node, ast.UnaryOp):
        return isinstance(node.operand, ast.Constant)
    if isinstance(node, (ast.Tuple, ast.List)):
        return all(plain_value(item) for item in node.elts)
    return isinstance(node, ast.Dict) and all(plain_value(item) for item in node.keys + node.values)


def table_of_functions(node, above):
    """Return True for a dict of texts to functions that are defined above it."""
    if not isinstance(node, ast.Dict) or not all(plain_value(item) for item in node.keys):
        return False
    return all(isinstance(item, ast.Name) and item.id in above for item in node.values)


class Language(unittest.TestCase):
    def test_files_are_plain(self):
        for name in os.listdir(PACKAGE):
            self.assertTrue(name.endswith(".py") or name == "__pycache__", name)
        for name, path in files():
            with open(path, "rb") as file:
                data = file.read()
            self.assertTrue(all(sign == 10 or 32 <= sign < 127 for sign in data), name)
            lines = data.decode("ascii").split("\n")
            self.assertLessEqual(len(lines), 399, name)
            self.assertLessEqual(max(len(line) for line in lines), 120, name)

    def test_module_level(self):
        for name, tree in trees():
            names = []
            for place, node in enumerate(tree.body):
                if place == 0:
                    self.assertIsNotNone(ast.get_docstring(tree), name)
                    continue
                at = f"{name}:{node.lineno}"
                self.assertIsInstance(node, (ast.ImportFrom, ast.FunctionDef, ast.ClassDef, ast.Assign), at)
                if isinstance(node, ast.Assign):
                    self.assertEqual(len(node.targets), 1, at)
                    self.assertIsInstance(node.targets[0], ast.Name, at)
                    above = [one.name for one in tree.body[:place] if isinstance(one, ast.FunctionDef)]
                    self.assertTrue(plain_value(node.value) or table_of_functions(node.value, above), at)
                    names.append(node.targets[0].id)
                elif isinstance(node, ast.ImportFrom):
                    names.extend(alias.name for alias in node.names)
                else:
                    names.append(node.name)
            self.assertEqual(len(names), len(set(names)), name)

    def test_imports_name_the_defining_file_and_go_one_way(self):
        defined = {}
        wanted = {}
        for name, tree in trees():
            rows = [node for node in tree.body if not isinstance(node, (ast.ImportFrom, ast.Expr))]
            defined[name] = {node.targets[0].id if isinstance(node, ast.Assign) else node.name for node in rows}
            wanted[name] = [node for node in ast.walk(tree) if isinstance(node, (ast.Import, ast.ImportFrom))]
        above = {}
        for name, nodes in wanted.items():
            for node in nodes:
                self.assertIsInstance(node, ast.ImportFrom, name)
                self.assertTrue(node.module.startswith("pagestack."), name)
                for alias in node.names:
                    self.assertIsNone(alias.asname, name)
                    self.assertIn(alias.name, defined[node.module[10:]], name)
            above[name] = [node.module[10:] for node in nodes]
        done = []
        while len(done) < len(above):
            ready = [name for name in above if name not in done and all(other in done for other in above[name])]
            self.assertNotEqual(ready, [], "imports go round")
            done.extend(ready)

    def test_functions_are_small_and_plain(self):
        for name, tree in trees():
            for node in functions(tree):
                at = f"{name}:{node.lineno}"
                self.assertLessEqual(node.end_lineno - node.lineno + 1, 40, at)
                self.assertEqual(node.decorator_list, [], at)
                self.assertIsNotNone(ast.get_docstring(node) or node.name == "__init__" or None, at)
                for default in node.args.defaults:
                    self.assertTrue(plain_value(default), at)
                if node.name.startswith("__"):
                    self.assertIn(node.name, DUNDERS, at)

    def test_statements_and_expressions(self):
        for name, tree in trees():
            for node in ast.walk(tree):
                at = f"{name}:{getattr(node, 'lineno', 0)}"
                if isinstance(node, ast.stmt):
                    self.assertIsInstance(node, STATEMENTS, at)
                self.assertNotIsInstance(node, (ast.Div, ast.Lambda) if name != "cascade" else ast.Div, at)
                self.assertNotIsInstance(node, (ast.Set, ast.SetComp, ast.NamedExpr, ast.Yield, ast.Await), at)
                if isinstance(node, ast.Constant):
                    self.assertNotIsInstance(node.value, (float, bytes, complex), at)
                if isinstance(node, ast.Compare) and any(isinstance(op, (ast.Is, ast.IsNot)) for op in node.ops):
                    self.assertIsInstance(node.comparators[0], ast.Constant, at)
                    self.assertIn(node.comparators[0].value, (None, True, False), at)

    def test_generators_stand_where_they_are_used(self):
        users = ("list", "tuple", "dict", "sorted", "sum", "min", "max", "any", "all")
        for name, tree in trees():
            right = []
            for node in ast.walk(tree):
                if not isinstance(node, ast.Call) or len(node.args) != 1 or node.keywords:
                    continue
                by_name = isinstance(node.func, ast.Name) and node.func.id in users
                by_join = isinstance(node.func, ast.Attribute) and node.func.attr == "join"
                if by_name or (by_join and isinstance(node.func.value, ast.Constant)):
                    right.append(node.args[0])
            for node in ast.walk(tree):
                if isinstance(node, ast.GeneratorExp):
                    self.assertIn(node, right, f"{name}:{node.lineno}")

    def test_names(self):
        for name, tree in trees():
            shared = [node.name for node in tree.body if isinstance(node, ast.ClassDef)]
            for node in tree.body:
                if isinstance(node, ast.ImportFrom):
                    shared.extend(alias.name for alias in node.names)
            for word, line in bound_names(tree):
                at = f"{name}:{line} {word}"
                self.assertNotIn(word, NOWHERE | NO_NAMES | NO_WORDS, at)
                if word not in DUNDERS:
                    self.assertFalse(word.startswith("__") or word.startswith("_wall"), at)
            for node in functions(tree):
                for word, line in bound_names(node):
                    if word != node.name:
                        self.assertNotIn(word, shared, f"{name}:{line}")
                        self.assertFalse(hasattr(builtins, word), f"{name}:{line} {word}")

    def test_builtins_and_methods(self):
        own = {node.name for _, tree in trees() for node in functions(tree)}
        for name, tree in trees():
            for node in ast.walk(tree):
                at = f"{name}:{getattr(node, 'lineno', 0)}"
                if isinstance(node, ast.Name) and hasattr(builtins, node.id):
                    self.assertIn(node.id, BUILTINS, at)
                if isinstance(node, ast.Call) and isinstance(node.func, ast.Attribute):
                    self.assertIn(node.func.attr, METHODS | own | {"__init__"}, at)
                if isinstance(node, ast.Attribute) and isinstance(node.ctx, ast.Store):
                    self.assertIsInstance(node.value, ast.Name, at)
                    self.assertNotIn(node.attr, (STRING_METHODS - FREE_ATTRIBUTES) | NOWHERE, at)
            for kind in ast.walk(tree):
                if isinstance(kind, ast.ClassDef):
                    for node in functions(kind):
                        if node.name != "__init__":
                            self.assertNotIn(node.name, (STRING_METHODS - FREE_METHODS) | NOWHERE | NO_NAMES, name)

    def test_attributes_that_are_read_are_assigned(self):
        own = {node.name for _, tree in trees() for node in functions(tree)}
        assigned = set()
        for _, tree in trees():
            for node in ast.walk(tree):
                if isinstance(node, ast.Attribute) and isinstance(node.ctx, ast.Store):
                    assigned.add(node.attr)
        for name, tree in trees():
            for node in ast.walk(tree):
                if isinstance(node, ast.Attribute) and isinstance(node.ctx, ast.Load):
                    self.assertIn(node.attr, assigned | own | METHODS | {"__init__"}, f"{name}:{node.lineno}")

    def test_no_name_is_a_method_and_an_attribute_of_one_class(self):
        for name, tree in trees():
            for kind in ast.walk(tree):
                if isinstance(kind, ast.ClassDef):
                    methods = [node.name for node in functions(kind)]
                    self.assertEqual(len(methods), len(set(methods)), name)
                    for node in ast.walk(kind):
                        if isinstance(node, ast.Attribute) and isinstance(node.ctx, ast.Store):
                            self.assertNotIn(node.attr, methods, f"{name}:{node.lineno}")

    def test_no_name_is_a_method_and_an_attribute_anywhere(self):
        methods = set()
        attributes = {}
        for name, tree in trees():
            for node in ast.walk(tree):
                if isinstance(node, ast.ClassDef):
                    methods |= {one.name for one in functions(node)}
                elif isinstance(node, ast.Attribute) and isinstance(node.ctx, ast.Store):
                    attributes[node.attr] = f"{name}:{node.lineno}"
        for word, at in attributes.items():
            self.assertNotIn(word, methods, at)

    def test_functions_of_tables_are_called_by_a_name(self):
        for name, tree in trees():
            for node in ast.walk(tree):
                if isinstance(node, ast.Call):
                    self.assertIsInstance(node.func, (ast.Name, ast.Attribute), f"{name}:{node.lineno}")

    def test_handlers_name_own_errors_each_by_another_name(self):
        for name, tree in trees():
            for function in functions(tree):
                words = []
                for node in ast.walk(function):
                    if isinstance(node, ast.ExceptHandler):
                        self.assertIsInstance(node.type, ast.Name, f"{name}:{node.lineno}")
                        self.assertNotIn(node.type.id, BUILTINS, f"{name}:{node.lineno}")
                        words.extend([node.name] if node.name else [])
                self.assertEqual(len(words), len(set(words)), f"{name}:{function.lineno}")
                self.assertFalse(set(words) & {word for word, _ in bound_names(function)}, f"{name}:{function.lineno}")

    def test_what_stands_in_a_finally_is_plain(self):
        for name, tree in trees():
            for node in ast.walk(tree):
                if isinstance(node, ast.Try):
                    for row in node.finalbody:
                        self.assertIsInstance(row, ast.Assign, f"{name}:{row.lineno}")
                        self.assertIsInstance(row.value, (ast.Constant, ast.Name, ast.Attribute), f"{name}:{row.lineno}")

    def test_there_are_no_nested_functions_and_no_calls_with_stars(self):
        for name, tree in trees():
            for function in functions(tree):
                inner = [node for node in functions(function) if node is not function]
                self.assertEqual(inner, [], f"{name}:{function.lineno}")
            for node in ast.walk(tree):
                if isinstance(node, ast.Call):
                    self.assertFalse(any(isinstance(one, ast.Starred) for one in node.args), f"{name}:{node.lineno}")
                    self.assertFalse(any(one.arg is None for one in node.keywords), f"{name}:{node.lineno}")

    def test_strings(self):
        for name, tree in trees():
            docs = [ast.get_docstring(node, clean=False) for node in ast.walk(tree)
                    if isinstance(node, (ast.Module, ast.FunctionDef, ast.ClassDef))]
            for node in ast.walk(tree):
                if isinstance(node, ast.Constant) and isinstance(node.value, str) and node.value not in docs:
                    at = f"{name}:{node.lineno}"
                    self.assertNotIn("%", node.value, at)
                    self.assertFalse(node.value.endswith("._") or node.value.endswith(".__"), at)
                    for word in NO_WORDS:
                        self.assertIsNone(re.search(r"\b" + word + r"\b", node.value), at)
                    for word in ("dataclass", "overload", "contextmanager"):
                        self.assertNotIn(word, node.value, at)

    def test_what_a_loop_goes_over_is_not_changed_in_it(self):
        changers = "append clear extend insert pop remove reverse setdefault update".split()
        for name, tree in trees():
            for loop in ast.walk(tree):
                if not isinstance(loop, ast.For):
                    continue
                gone_over = ast.unparse(loop.iter)
                for node in ast.walk(loop):
                    if isinstance(node, ast.Call) and isinstance(node.func, ast.Attribute):
                        if node.func.attr in changers:
                            target = ast.unparse(node.func.value)
                            self.assertNotEqual(gone_over, target, f"{name}:{node.lineno}")


if __name__ == "__main__":
    unittest.main()
