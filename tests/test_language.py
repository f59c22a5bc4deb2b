"""The rules of the language that a look at the files can check."""

import ast
import builtins
import os
import unittest

ROOT = os.path.join(os.path.dirname(os.path.dirname(os.path.abspath(__file__))), "foldsall")

BUILTINS = set("""len range enumerate zip min max sum abs sorted reversed int str bool bytes list tuple dict set
frozenset isinstance ord repr any all divmod pow getattr hasattr setattr Exception ValueError TypeError KeyError
IndexError LookupError ZeroDivisionError ArithmeticError OverflowError RuntimeError NotImplementedError
AttributeError StopIteration NotImplemented iter next map""".split())
METHODS = set("""append clear copy count endswith extend find get index insert isalnum isalpha isdigit islower
isspace isupper items join keys ljust lower lstrip partition pop remove replace reverse rfind rjust rpartition
rsplit rstrip setdefault split splitlines startswith strip update upper values zfill bit_length sort add
discard""".split())
NOWHERE = set("""register mro elements open input law version_info with_traceback add_note""".split())
NO_NAMES = set("""attrgetter breakpoint builtins compile copyright credits delattr dir eval exec exit gc getattr
globals hasattr help id importlib license locals methodcaller os quit setattr super type vars sys __name__""".split())
NO_ATTRIBUTES = set("""items keys values pop update append clear extend insert remove reverse setdefault sort args
encode decode hex fromhex format format_map mro""".split())
LIBRARY = {"heapq": {"heappush", "heappop", "heapify", "heapreplace", "heappushpop"},
           "math": {"gcd", "lcm", "isqrt", "comb", "perm", "factorial"},
           "itertools": {"product", "combinations", "permutations", "chain", "accumulate", "pairwise", "islice",
                         "zip_longest"},
           "collections": {"defaultdict"}}
AT_ONCE = set("list tuple dict sorted sum any all enumerate zip min max combinations permutations product".split())
WORDS = set("""type typing typing_extensions enum Enum IntEnum StrEnum Flag IntFlag Generic Protocol ABC ABCMeta
namedtuple NamedTuple TypedDict TYPE_CHECKING abstractmethod""".split())


def package_files():
    return sorted(name for name in os.listdir(ROOT) if name != "__pycache__")


def parsed(name):
    with open(os.path.join(ROOT, name), encoding="utf-8") as source:
        text = source.read()
    tree = ast.parse(text)
    for node in ast.walk(tree):
        for child in ast.iter_child_nodes(node):
            child.parent = node
    return text, tree


def imports_of(tree):
    return [node for node in ast.walk(tree) if isinstance(node, (ast.Import, ast.ImportFrom))]


def called(node):
    return node.func.id if isinstance(node, ast.Call) and isinstance(node.func, ast.Name) else None


def docstrings(tree):
    found = set()
    for node in ast.walk(tree):
        if isinstance(node, (ast.Module, ast.ClassDef, ast.FunctionDef)) and node.body:
            first = node.body[0]
            if isinstance(first, ast.Expr) and isinstance(first.value, ast.Constant):
                found.add(id(first.value))
    return found


class LanguageTest(unittest.TestCase):
    def each(self):
        for name in package_files():
            text, tree = parsed(name)
            yield name, text, tree

    def test_files(self):
        names = package_files()
        self.assertIn("__init__.py", names)
        self.assertLessEqual(len(names), 100)
        for name in names:
            self.assertTrue(name.endswith(".py") and name == name.lower(), name)
            self.assertNotIn(name[:-3], WORDS | set(dir(builtins)))

    def test_sizes(self):
        for name, text, tree in self.each():
            lines = text.split("\n")
            self.assertLessEqual(len(lines) - 1, 399)
            for line in lines:
                self.assertLessEqual(len(line), 120, (name, line))
                self.assertTrue(all(" " <= sign <= "~" for sign in line), line)
            for node in ast.walk(tree):
                if isinstance(node, ast.FunctionDef):
                    self.assertLessEqual(node.end_lineno - node.lineno + 1, 40, node.name)

    def test_imports(self):
        edges = {}
        for name, text, tree in self.each():
            edges[name[:-3]] = set()
            tops = [node for node in tree.body if isinstance(node, (ast.Import, ast.ImportFrom))]
            self.assertEqual(tops, imports_of(tree))
            for node in tops:
                self.assertIsInstance(node, ast.ImportFrom)
                self.assertEqual(node.level, 0)
                words = {alias.name for alias in node.names}
                self.assertTrue(all(alias.asname is None for alias in node.names))
                if node.module in LIBRARY:
                    self.assertLessEqual(words, LIBRARY[node.module])
                else:
                    self.assertTrue(node.module.startswith("foldsall."), node.module)
                    module = node.module.split(".")[1]
                    edges[name[:-3]].add(module)
                    _, other = parsed(module + ".py")
                    defined = {part.name for part in other.body if isinstance(part, (ast.FunctionDef, ast.ClassDef))}
                    defined |= {target.id for part in other.body if isinstance(part, ast.Assign)
                                for target in part.targets}
                    self.assertLessEqual(words, defined)
        done = set()
        while len(done) < len(edges):
            ready = [name for name in edges if name not in done and edges[name] <= done]
            self.assertTrue(ready, "files import from each other")
            done |= set(ready)

    def test_imports_are_used(self):
        for name, text, tree in self.each():
            used = {node.id for node in ast.walk(tree) if isinstance(node, ast.Name)}
            for node in imports_of(tree):
                for alias in node.names:
                    self.assertIn(alias.name, used, name)

    def test_module_level(self):
        for name, text, tree in self.each():
            bound = []
            for at, node in enumerate(tree.body):
                if isinstance(node, (ast.FunctionDef, ast.ClassDef)):
                    bound.append(node.name)
                elif isinstance(node, ast.ImportFrom):
                    bound.extend(alias.name for alias in node.names)
                elif isinstance(node, ast.Assign):
                    self.assertEqual(len(node.targets), 1)
                    ast.literal_eval(node.value)
                    bound.append(node.targets[0].id)
                else:
                    self.assertTrue(at == 0 and isinstance(node, ast.Expr), ast.dump(node))
            self.assertEqual(len(bound), len(set(bound)))

    def test_statements(self):
        allowed = (ast.Assign, ast.AugAssign, ast.If, ast.While, ast.For, ast.Return, ast.Break, ast.Continue,
                   ast.Pass, ast.Raise, ast.Try, ast.Expr, ast.FunctionDef, ast.ClassDef, ast.ImportFrom, ast.Delete,
                   ast.Assert)
        for name, text, tree in self.each():
            for node in ast.walk(tree):
                if isinstance(node, ast.stmt):
                    self.assertIsInstance(node, allowed)
                if isinstance(node, ast.Expr):
                    self.assertIsInstance(node.value, (ast.Call, ast.Constant))
                if isinstance(node, (ast.FunctionDef, ast.ClassDef)):
                    self.assertEqual(node.decorator_list, [])
                if isinstance(node, ast.FunctionDef):
                    self.assertIsInstance(node.parent, (ast.Module, ast.ClassDef), "nested functions are not used here")
                    self.assertIsNone(node.returns)
                if isinstance(node, ast.arg):
                    self.assertIsNone(node.annotation)

    def test_expressions(self):
        barred = (ast.Yield, ast.YieldFrom, ast.Await, ast.NamedExpr, ast.Lambda, ast.GeneratorExp)
        for name, text, tree in self.each():
            for node in ast.walk(tree):
                self.assertNotIsInstance(node, barred)
                if isinstance(node, ast.Constant):
                    self.assertNotIsInstance(node.value, (float, complex, bytes))
                if isinstance(node, (ast.BinOp, ast.AugAssign)):
                    self.assertNotIsInstance(node.op, (ast.Div, ast.Pow, ast.MatMult))
                if isinstance(node, ast.Compare):
                    for op, right in zip(node.ops, node.comparators):
                        if isinstance(op, (ast.Is, ast.IsNot)):
                            self.assertIsInstance(right, ast.Constant)
                            self.assertIn(right.value, (None, True, False))
                if isinstance(node, ast.Starred):
                    self.assertIsInstance(node.parent, (ast.List, ast.Tuple))
                if isinstance(node, ast.Call):
                    self.assertTrue(all(word.arg for word in node.keywords))

    def test_names(self):
        known = set(dir(builtins))
        for name, text, tree in self.each():
            fixed = {alias.name for node in imports_of(tree) for alias in node.names}
            fixed |= {node.name for node in tree.body if isinstance(node, ast.ClassDef)}
            defined = fixed | {node.name for node in tree.body if isinstance(node, ast.FunctionDef)}
            defined |= {target.id for node in tree.body if isinstance(node, ast.Assign) for target in node.targets}
            for node in ast.walk(tree):
                words = []
                if isinstance(node, ast.Name):
                    words = [node.id]
                    if isinstance(node.ctx, ast.Load):
                        self.assertNotEqual(node.id, "_")
                        if node.id in known:
                            self.assertIn(node.id, BUILTINS)
                    elif not isinstance(getattr(node.parent, "parent", None), ast.Module):
                        self.assertNotIn(node.id, fixed)
                        self.assertNotIn(node.id, known)
                elif isinstance(node, ast.arg):
                    words = [node.arg]
                    self.assertNotIn(node.arg, fixed | known)
                elif isinstance(node, (ast.FunctionDef, ast.ClassDef)):
                    words = [node.name]
                    if isinstance(node.parent, ast.Module):
                        self.assertNotIn(node.name, known)
                elif isinstance(node, ast.Attribute):
                    self.assertNotIn(node.attr, NOWHERE)
                for word in words:
                    self.assertNotIn(word, NOWHERE | NO_NAMES)
                    self.assertFalse(word.startswith("__") and word != "__init__", word)

    def test_attributes(self):
        methods, attributes, by_class = set(), set(), []
        for name, text, tree in self.each():
            for node in ast.walk(tree):
                if isinstance(node, ast.ClassDef):
                    own = {part.name for part in node.body if isinstance(part, ast.FunctionDef)}
                    stored = {part.attr for part in ast.walk(node) if isinstance(part, ast.Attribute)
                              and isinstance(part.ctx, ast.Store)}
                    self.assertFalse(own & stored)
                    self.assertEqual(len([part for part in node.body if isinstance(part, ast.FunctionDef)]), len(own))
                    methods |= own
                    attributes |= stored
        self.assertFalse(methods & attributes)
        self.assertFalse(attributes & NO_ATTRIBUTES)
        self.assertFalse(methods & NO_ATTRIBUTES)
        for kind in ("", 0, [], {}, set(), b"", ()):
            self.assertFalse((methods | attributes) & {name for name in dir(kind) if not name.startswith("__")})
        for name, text, tree in self.each():
            for node in ast.walk(tree):
                if isinstance(node, ast.Attribute):
                    is_call = isinstance(node.parent, ast.Call) and node.parent.func is node
                    if is_call:
                        self.assertIn(node.attr, methods | METHODS)
                    else:
                        self.assertIn(node.attr, attributes)

    def test_sets_and_views(self):
        for name, text, tree in self.each():
            for node in ast.walk(tree):
                if isinstance(node, (ast.Set, ast.SetComp)) or called(node) == "set":
                    above = node.parent
                    self.assertTrue(called(above) in ("sorted", "len") or isinstance(above, ast.Compare), (name, node.lineno))
                if called(node) in ("map", "iter", "next", "frozenset", "getattr", "setattr", "hasattr", "pow"):
                    self.fail(node.lineno)
                view = (isinstance(node, ast.Call) and isinstance(node.func, ast.Attribute)
                        and node.func.attr in ("items", "keys", "values"))
                if view or called(node) in ("range", "zip", "enumerate", "reversed"):
                    above = node.parent
                    inside = isinstance(above, (ast.For, ast.comprehension)) and above.iter is node
                    kept = called(node) == "range" and isinstance(above, ast.Assign)
                    turned = called(node) == "range" and called(above) in ("reversed", "len")
                    self.assertTrue(inside or kept or turned or called(above) in AT_ONCE, (name, node.lineno))

    def test_strings(self):
        for name, text, tree in self.each():
            papers = docstrings(tree)
            for node in ast.walk(tree):
                if isinstance(node, ast.Constant) and isinstance(node.value, str):
                    self.assertNotIn("%", node.value)
                    self.assertNotIn("\\", node.value)
                    if id(node) not in papers:
                        self.assertFalse(WORDS & set(node.value.split()), node.value)
                if isinstance(node, ast.JoinedStr):
                    self.assertEqual(node.lineno, node.end_lineno)
                    for part in ast.walk(node):
                        if isinstance(part, ast.FormattedValue):
                            self.assertFalse([one for one in ast.walk(part.value) if isinstance(one, ast.Constant)
                                              and isinstance(one.value, str)])

    def test_nested_names(self):
        """The variable of a comprehension within another one is none that is assigned further out."""
        for name, text, tree in self.each():
            for function in ast.walk(tree):
                if not isinstance(function, ast.FunctionDef):
                    continue
                outer = {node.id for node in ast.walk(function) if isinstance(node, ast.Name)
                         and isinstance(node.ctx, ast.Store) and not self.comprehensions_above(node, function)}
                outer |= {argument.arg for argument in function.args.args}
                for node in ast.walk(function):
                    if isinstance(node, ast.Name) and isinstance(node.ctx, ast.Store):
                        above = self.comprehensions_above(node, function)
                        if len(above) > 1:
                            self.assertNotIn(node.id, outer, (name, function.name))
                            for other in above[1:]:
                                own = {part.id for one in other.generators for part in ast.walk(one.target)
                                       if isinstance(part, ast.Name)}
                                self.assertNotIn(node.id, own, (name, function.name))

    def comprehensions_above(self, node, function):
        found = []
        while node is not function:
            node = node.parent
            if isinstance(node, (ast.ListComp, ast.SetComp, ast.DictComp)):
                found.append(node)
        return found

    def test_errors(self):
        for name, text, tree in self.each():
            for node in ast.walk(tree):
                if isinstance(node, ast.Raise) and node.exc is not None:
                    self.assertTrue(called(node.exc), node.lineno)
                    self.assertIsNone(node.cause)
                if isinstance(node, ast.ExceptHandler):
                    self.assertIsInstance(node.type, ast.Name)

    def test_functions_are_told_and_short(self):
        for name, text, tree in self.each():
            self.assertTrue(ast.get_docstring(tree))
            for node in ast.walk(tree):
                if isinstance(node, (ast.FunctionDef, ast.ClassDef)) and node.name != "__init__":
                    self.assertTrue(ast.get_docstring(node), node.name)


if __name__ == "__main__":
    unittest.main()
