"""What a short test can see of the rules of LANGUAGE.md."""

import ast
import builtins
import os
import re
import unittest
import warnings

FOLDER = os.path.join(os.path.dirname(os.path.dirname(os.path.abspath(__file__))), "searchback")
FILES = sorted(os.listdir(FOLDER))
BUILTINS = set("""len range enumerate zip min max sum abs sorted reversed int str bool list tuple dict set isinstance ord
repr any all divmod iter super ValueError NotImplemented property classmethod staticmethod""".split())
METHODS = set("""append clear copy count endswith extend find get index insert isalnum isalpha isdigit islower isspace
isupper items join keys ljust lower lstrip partition pop remove replace reverse rfind rjust rpartition rsplit rstrip
setdefault split splitlines startswith strip update upper values zfill bit_length isascii add discard""".split())
OPERATORS = {"__eq__", "__repr__", "__str__", "__len__", "__iter__", "__contains__"}
DUNDERS = {"__init__", "__enter__", "__exit__", *OPERATORS}
WORDS = set("""type typing enum Enum Flag Generic Protocol ABC ABCMeta namedtuple NamedTuple TypedDict abstractmethod
dataclass overload contextmanager""".split())
BARRED = set("""register mro elements open input law version_info with_traceback add_note attrgetter breakpoint builtins
compile copyright credits delattr dir eval exec exit gc getattr globals hasattr help id importlib license locals
methodcaller os quit setattr super type vars sys""".split())
STATEMENTS = (
    ast.FunctionDef, ast.ClassDef, ast.Return, ast.Assign, ast.AugAssign, ast.For, ast.While, ast.If, ast.Raise, ast.Try,
    ast.Assert, ast.ImportFrom, ast.Expr, ast.Pass, ast.Break, ast.Continue, ast.Delete, ast.With,
)
CHANGING = {"append", "clear", "extend", "insert", "pop", "remove", "reverse", "setdefault", "update"}
TAKES_LISTS = ("any", "all", "min", "max", "sum", "sorted")


def text_of(name):
    with open(os.path.join(FOLDER, name), encoding="utf-8", newline="") as file:
        return file.read()


def trees():
    return {name: ast.parse(text_of(name)) for name in FILES}


def walked(kind):
    """Each node of this kind, with the file and the line in which it stands."""
    for name, tree in trees().items():
        for node in ast.walk(tree):
            if isinstance(node, kind):
                yield f"{name}:{getattr(node, 'lineno', 0)}", node


def local_names(function):
    """The parameters of a function and the names that it binds."""
    found = [arg.arg for arg in ast.walk(function.args) if isinstance(arg, ast.arg)]
    for node in ast.walk(function):
        if isinstance(node, ast.Name) and isinstance(node.ctx, ast.Store):
            found.append(node.id)
    return found


def changed_things(nodes):
    """What these statements change: whatever has an item put in or deleted, or a method called that changes it."""
    found = []
    for part in ast.walk(ast.Module(nodes, [])):
        if isinstance(part, ast.Call) and isinstance(part.func, ast.Attribute) and part.func.attr in CHANGING:
            found.append(part.func.value)
        if isinstance(part, ast.Subscript) and not isinstance(part.ctx, ast.Load):
            found.append(part.value)
    return found


def names_of_held_things(function):
    """The names to which a function gives what an object holds, or one of several things."""
    found = set()
    for node in ast.walk(function):
        if isinstance(node, ast.Assign):
            value = node.value
            while isinstance(value, ast.Subscript):
                value = value.value
            if isinstance(value, (ast.Attribute, ast.IfExp, ast.BoolOp)):
                found.update(bound_names([node]))
    return found


def is_held(thing, names):
    """Whether a thing, or what it is an item of, is an attribute or has one of these names."""
    while isinstance(thing, ast.Subscript):
        thing = thing.value
    return isinstance(thing, ast.Attribute) or isinstance(thing, ast.Name) and thing.id in names


def walks_result(over, own):
    """Whether a loop goes straight over what one of these own functions, or `get`, hands back."""
    if not isinstance(over, ast.Call):
        return False
    if isinstance(over.func, ast.Attribute):
        return over.func.attr in own or over.func.attr == "get"
    if over.func.id in ("enumerate", "zip", "reversed"):
        return any(walks_result(arg, own) for arg in over.args)
    return over.func.id in own


def bound_names(nodes):
    """The names that these assignments or targets bind, without those within comprehensions."""
    found = set()
    for node in nodes:
        for target in getattr(node, "targets", [getattr(node, "target", node)]):
            found.update(
                part.id for part in ast.walk(target) if isinstance(part, ast.Name) and isinstance(part.ctx, ast.Store)
            )
    return found - {"_"}


def top_names(tree):
    """The names that a file binds at module level, in order."""
    found = []
    for node in tree.body:
        if isinstance(node, (ast.FunctionDef, ast.ClassDef)):
            found.append(node.name)
        elif isinstance(node, ast.Assign):
            found.extend(target.id for target in node.targets)
        elif isinstance(node, ast.ImportFrom):
            found.extend(alias.asname or alias.name for alias in node.names)
    return found


def run_by_properties():
    """Each property and operator, and each function that they run, with the file and its line."""
    functions, waiting, seen = {}, [], {}
    for place, node in walked(ast.FunctionDef):
        functions.setdefault(node.name, []).append((place, node))
        if node.decorator_list and node.decorator_list[0].id == "property" or node.name in OPERATORS:
            waiting.append((place, node))
    while waiting:
        place, node = waiting.pop()
        if place in seen:
            continue
        seen[place] = node
        for part in ast.walk(node):
            if isinstance(part, ast.Call):
                word = part.func.id if isinstance(part.func, ast.Name) else part.func.attr
                waiting.extend(functions.get(word, []))
            elif isinstance(part, ast.Attribute):
                waiting.extend(row for row in functions.get(part.attr, []) if row[1].decorator_list)
    return sorted(seen.items())


class FilesTest(unittest.TestCase):
    def test_only_plain_files(self):
        self.assertIn("__init__.py", FILES)
        self.assertLessEqual(len(FILES), 100)
        for name in FILES:
            self.assertRegex(name, r"^([a-z][a-z0-9_]*|__init__)\.py$")

    def test_signs(self):
        for name in FILES:
            self.assertRegex(text_of(name), r"\A[ -~\n]*\Z", name)

    def test_sizes(self):
        for name in FILES:
            lines = text_of(name).split("\n")
            self.assertLessEqual(len(lines) - 1, 399, name)
            for index, line in enumerate(lines):
                self.assertLessEqual(len(line), 120, (name, index + 1))
                self.assertEqual(line, line.rstrip(), (name, index + 1))
        for place, node in walked(ast.FunctionDef):
            self.assertLessEqual(node.end_lineno - node.lineno + 1, 40, place)

    def test_no_warnings(self):
        with warnings.catch_warnings():
            warnings.simplefilter("error")
            for name in FILES:
                compile(text_of(name), name, "exec")


class ImportsTest(unittest.TestCase):
    def test_from_the_very_file(self):
        names = {name: top_names(tree) for name, tree in trees().items()}
        own = {name: [n.name for n in tree.body if isinstance(n, (ast.FunctionDef, ast.ClassDef))]
               + [t.id for n in tree.body if isinstance(n, ast.Assign) for t in n.targets]
               for name, tree in trees().items()}
        for place, node in walked((ast.Import, ast.ImportFrom)):
            self.assertIsInstance(node, ast.ImportFrom, place)
            self.assertEqual(node.level, 0, place)
            if node.module == "math":
                self.assertLessEqual({alias.name for alias in node.names}, {"comb", "perm"}, place)
                continue
            self.assertRegex(node.module, r"^searchback\.[a-z]+$", place)
            for alias in node.names:
                self.assertIsNone(alias.asname, place)
                self.assertIn(alias.name, own[node.module.partition(".")[2] + ".py"], place)
        for name, found in names.items():
            self.assertEqual(len(found), len(set(found)), name)

    def test_no_ring(self):
        needs = {name: set() for name in FILES}
        for place, node in walked(ast.ImportFrom):
            if node.module != "math":
                needs[place.partition(":")[0]].add(node.module.partition(".")[2] + ".py")
        while needs:
            free = [name for name, others in needs.items() if not others & set(needs)]
            self.assertTrue(free, needs)
            needs = {name: others for name, others in needs.items() if name not in free}

    def test_imports_are_used(self):
        for name, tree in trees().items():
            used = {node.id for node in ast.walk(tree) if isinstance(node, ast.Name)}
            for node in tree.body:
                if isinstance(node, ast.ImportFrom):
                    for alias in node.names:
                        self.assertIn(alias.name, used, name)


class RulesTest(unittest.TestCase):
    def test_module_level(self):
        for name, tree in trees().items():
            self.assertIsInstance(tree.body[0].value, ast.Constant, name)
            for node in tree.body[1:]:
                self.assertIsInstance(node, (ast.ImportFrom, ast.FunctionDef, ast.ClassDef, ast.Assign), name)
                if isinstance(node, ast.Assign):
                    self.assertEqual(len(node.targets), 1)
                    ast.literal_eval(node.value)

    def test_statements(self):
        for place, node in walked(ast.stmt):
            self.assertIsInstance(node, STATEMENTS, place)
            if isinstance(node, ast.Expr):
                self.assertIsInstance(node.value, (ast.Constant, ast.Call, ast.Yield), place)
        for place, node in walked(ast.ExceptHandler):
            self.assertIsNotNone(node.type, place)
            self.assertNotIn(node.type.id, ("Exception", "ValueError", "LookupError", "IndexError"), place)

    def test_expressions(self):
        for place, node in walked((ast.Lambda, ast.NamedExpr, ast.Div, ast.Await, ast.Pow, ast.AnnAssign)):
            self.fail(place)
        for place, node in walked(ast.Constant):
            self.assertNotIsInstance(node.value, (float, complex, bytes), place)
            if isinstance(node.value, str):
                self.assertNotIn("%", node.value, place)
        for place, node in walked(ast.Compare):
            for sign, right in zip(node.ops, node.comparators):
                if isinstance(sign, (ast.Is, ast.IsNot)):
                    self.assertIsInstance(right, ast.Constant, place)
                    self.assertIn(right.value, (None, True, False), place)

    def test_names(self):
        for name, tree in trees().items():
            tops = set(top_names(tree))
            imported = {alias.name for node in tree.body if isinstance(node, ast.ImportFrom) for alias in node.names}
            classes = {node.name for node in tree.body if isinstance(node, ast.ClassDef)}
            for top in tops:
                self.assertFalse(hasattr(builtins, top) or top in BARRED, (name, top))
            for node in ast.walk(tree):
                if isinstance(node, ast.FunctionDef):
                    for local in local_names(node):
                        self.assertNotIn(local, imported | classes | BARRED, (name, node.name))
                        self.assertFalse(hasattr(builtins, local), (name, node.name, local))
                if isinstance(node, ast.Name) and isinstance(node.ctx, ast.Load):
                    self.assertNotEqual(node.id, "_", (name, node.lineno))
                    if hasattr(builtins, node.id):
                        self.assertIn(node.id, BUILTINS, (name, node.lineno))
                if isinstance(node, (ast.Name, ast.Attribute)):
                    word = node.id if isinstance(node, ast.Name) else node.attr
                    self.assertTrue(not word.startswith("__") or word in ("__class__", "__name__", "__init__"), (name, node.lineno))

    def test_methods(self):
        own = {node.name for _, node in walked(ast.FunctionDef)}
        for place, node in walked(ast.Call):
            if isinstance(node.func, ast.Attribute):
                self.assertIn(node.func.attr, own | METHODS, place)
                if node.func.attr in METHODS:
                    self.assertEqual(node.keywords, [], place)
            else:
                self.assertIsInstance(node.func, ast.Name, place)
        for _, node in walked(ast.ClassDef):
            named = [part.name for part in node.body if isinstance(part, ast.FunctionDef)]
            self.assertEqual(len(named), len(set(named)), node.name)
            for word in named:
                self.assertTrue(not word.startswith("__") or word in DUNDERS, (node.name, word))

    def test_decorators(self):
        methods = [part for _, node in walked(ast.ClassDef) for part in node.body if isinstance(part, ast.FunctionDef)]
        for place, node in walked(ast.FunctionDef):
            for mark in node.decorator_list:
                self.assertIn(mark.id, ("property", "classmethod", "staticmethod"), place)
                self.assertIn(node.name, [part.name for part in methods], place)
        names = [part.name for part in methods if not part.decorator_list]
        for part in methods:
            if part.decorator_list:
                self.assertNotIn(part.name, names)

    def test_attributes_are_no_methods_or_properties(self):
        stored = {node.attr for _, node in walked(ast.Attribute) if isinstance(node.ctx, ast.Store)}
        for _, node in walked(ast.ClassDef):
            own = {part.attr for part in ast.walk(node) if isinstance(part, ast.Attribute) and isinstance(part.ctx, ast.Store)}
            named = {part.name: part for part in node.body if isinstance(part, ast.FunctionDef)}
            self.assertFalse(own & set(named), node.name)
            for word, part in named.items():
                if part.decorator_list:
                    self.assertNotIn(word, stored, node.name)

    def test_generators(self):
        yielding = {node.name for _, node in walked(ast.FunctionDef)
                    if any(isinstance(part, (ast.Yield, ast.YieldFrom)) for part in ast.walk(node))}
        names = [node.name for _, node in walked(ast.FunctionDef)]
        for name in yielding:
            self.assertEqual(names.count(name), 1)
        for name, tree in trees().items():
            iterated = set()
            for node in ast.walk(tree):
                if isinstance(node, (ast.For, ast.comprehension)):
                    iterated.add(id(node.iter))
            for node in ast.walk(tree):
                if isinstance(node, ast.Call):
                    word = node.func.id if isinstance(node.func, ast.Name) else node.func.attr
                    if word in yielding:
                        self.assertIn(id(node), iterated, (name, node.lineno))

    def test_generators_are_passed_plain_things(self):
        yielding = {node.name for _, node in walked(ast.FunctionDef)
                    if any(isinstance(part, (ast.Yield, ast.YieldFrom)) for part in ast.walk(node))}
        for place, node in walked(ast.Call):
            word = node.func.id if isinstance(node.func, ast.Name) else node.func.attr
            if word in yielding:
                for arg in node.args:
                    self.assertTrue(isinstance(arg, (ast.Name, ast.Attribute, ast.Constant)) or ast.unparse(arg) == "()", place)
                self.assertEqual(node.keywords, [], place)

    def test_what_properties_and_operators_run_changes_nothing(self):
        for place, node in run_by_properties():
            own = {ast.unparse(part.targets[0]) for part in ast.walk(node)
                   if isinstance(part, ast.Assign) and isinstance(part.value, (ast.List, ast.Dict, ast.ListComp, ast.DictComp))}
            for part in ast.walk(node):
                self.assertFalse(isinstance(part, ast.Attribute) and not isinstance(part.ctx, ast.Load), place)
                if isinstance(part, ast.Subscript) and not isinstance(part.ctx, ast.Load):
                    self.assertIn(ast.unparse(part.value), own, place)
                if isinstance(part, ast.AugAssign):
                    self.assertIsInstance(part.value, ast.Constant, place)
                if isinstance(part, ast.Call) and isinstance(part.func, ast.Attribute):
                    self.assertTrue(part.func.attr not in CHANGING or ast.unparse(part.func.value) in own, place)

    def test_properties_and_operators_call_nothing_that_is_held(self):
        stored = {node.attr for _, node in walked(ast.Attribute) if isinstance(node.ctx, ast.Store)}
        for place, node in run_by_properties():
            local = set(local_names(node))
            for part in ast.walk(node):
                if isinstance(part, ast.Call) and isinstance(part.func, ast.Attribute):
                    self.assertNotIn(part.func.attr, stored, place)
                elif isinstance(part, ast.Call):
                    self.assertNotIn(part.func.id, local, place)

    def test_names_of_methods_and_attributes(self):
        stored = {node.attr for _, node in walked(ast.Attribute) if isinstance(node.ctx, ast.Store)}
        methods = {part.name for _, node in walked(ast.ClassDef) for part in node.body if isinstance(part, ast.FunctionDef)}
        # Both is let in unlike classes; the interface asks for it of these alone.
        self.assertEqual(stored & methods, {"first"})

    def test_what_comes_from_the_library_is_only_called(self):
        for name, tree in trees().items():
            taken = [alias.name for node in tree.body if isinstance(node, ast.ImportFrom) and node.module == "math"
                     for alias in node.names]
            called = [id(node.func) for node in ast.walk(tree) if isinstance(node, ast.Call)]
            for node in ast.walk(tree):
                if isinstance(node, ast.Name) and node.id in taken:
                    self.assertIn(id(node), called, name)

    def test_lists_instead_of_generator_expressions(self):
        for place, node in walked(ast.Call):
            if isinstance(node.func, ast.Name) and node.func.id in TAKES_LISTS:
                for arg in node.args:
                    self.assertNotIsInstance(arg, ast.GeneratorExp, place)

    def test_names_in_comprehensions(self):
        kinds = (ast.ListComp, ast.DictComp, ast.SetComp, ast.GeneratorExp)
        for place, node in walked(ast.FunctionDef):
            found = [part for part in ast.walk(node) if isinstance(part, kinds)]
            own = {part: bound_names([row.target for row in part.generators]) for part in found}
            bound = bound_names([part for part in ast.walk(node) if isinstance(part, (ast.Assign, ast.AugAssign))])
            bound |= bound_names([part.target for part in ast.walk(node) if isinstance(part, ast.For)])
            for outer in found:
                for inner in ast.walk(outer):
                    if inner is not outer and inner in own:
                        self.assertEqual(own[inner] & (bound | own[outer]), set(), place)

    def test_sets(self):
        for name, tree in trees().items():
            for node in ast.walk(tree):
                if isinstance(node, (ast.Set, ast.SetComp)):
                    self.fail((name, node.lineno))
                if isinstance(node, (ast.For, ast.comprehension)) and isinstance(node.iter, ast.Call):
                    if isinstance(node.iter.func, ast.Name):
                        self.assertNotEqual(node.iter.func.id, "set", name)

    def test_words(self):
        for name, tree in trees().items():
            bare = re.sub(r'"""[\s\S]*?"""|#.*', "", text_of(name))
            for word in re.findall(r"\w+", bare):
                self.assertNotIn(word, WORDS, name)
                self.assertNotRegex(word, r"dataclass|overload|contextmanager|_wall|_WallAttr", name)

    def test_loops_do_not_change_what_they_go_over(self):
        for place, node in walked(ast.For):
            over = ast.dump(node.iter)
            for thing in changed_things(node.body):
                self.assertNotIn(ast.dump(thing), over, place)

    def test_loops_over_results_do_not_change_what_is_held(self):
        # A function may hand back the very thing that an object holds.
        own = {node.name for _, node in walked(ast.FunctionDef)}
        for place, function in walked(ast.FunctionDef):
            names = names_of_held_things(function)
            for node in ast.walk(function):
                if isinstance(node, ast.For) and walks_result(node.iter, own):
                    for thing in changed_things(node.body):
                        self.assertFalse(is_held(thing, names), (place, thing.lineno))

    def test_errors_are_made_on_the_spot(self):
        for place, node in walked(ast.Raise):
            self.assertIsInstance(node.exc, ast.Call, place)
            self.assertIsInstance(node.exc.func, ast.Name, place)
            self.assertEqual(node.exc.keywords, [], place)


if __name__ == "__main__":
    unittest.main()
