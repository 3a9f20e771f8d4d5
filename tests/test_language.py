"""The form of the package: what of the subset of Python can be seen from the outside."""

import ast
import builtins
import os
import re
import tokenize
import unittest

ROOT = os.path.dirname(os.path.dirname(os.path.abspath(__file__)))
FOLDER = os.path.join(ROOT, "servedall")
LIBRARY = {"heapq": {"heappush", "heappop", "heapify", "heapreplace", "heappushpop"},
           "math": {"gcd", "lcm", "isqrt", "comb", "perm", "factorial"},
           "itertools": {"product", "combinations", "permutations"}}
CALLED = set("""len range enumerate zip min max sum abs sorted reversed int str bool list tuple dict set
    isinstance ord repr any all divmod""".split())
ERRORS = {"Exception", "KeyError", "ValueError"}
METHODS = set("""append clear copy count endswith extend find get index insert isalnum isalpha isdigit islower
    isspace isupper items join keys ljust lower lstrip partition pop remove replace reverse rfind rjust rpartition
    rsplit rstrip setdefault split splitlines startswith strip update upper values zfill bit_length
    removeprefix removesuffix isascii add discard""".split())
CHANGING = set("append clear extend insert pop remove reverse setdefault update add discard".split())
AT_ONCE = {"zip", "enumerate", "reversed"}
VIEWS = {"items", "keys", "values"}
NOWHERE = set("""register mro elements open input law version_info with_traceback add_note attrgetter breakpoint
    builtins compile copyright credits delattr dir eval exec exit gc getattr globals hasattr help id importlib
    license locals methodcaller os quit setattr super type vars sys iter next format map""".split())
WORDS = re.compile(r"\b(type|typing|typing_extensions|enum|Enum|IntEnum|StrEnum|Flag|IntFlag|Generic|Protocol|ABC"
                   r"|ABCMeta|namedtuple|NamedTuple|TypedDict|TYPE_CHECKING|abstractmethod|_wall|_WallAttr)\b"
                   r"|dataclass|overload|contextmanager")
NODES = (ast.Module, ast.FunctionDef, ast.arguments, ast.arg, ast.ClassDef, ast.Return, ast.Assign, ast.AugAssign,
         ast.For, ast.While, ast.If, ast.Raise, ast.Expr, ast.Pass, ast.Break, ast.Continue, ast.BoolOp, ast.And,
         ast.Or, ast.BinOp, ast.Add, ast.Sub, ast.Mult, ast.FloorDiv, ast.Mod, ast.Pow, ast.LShift, ast.RShift,
         ast.BitOr, ast.BitXor, ast.BitAnd, ast.UnaryOp, ast.Not, ast.USub, ast.Lambda, ast.IfExp, ast.Dict,
         ast.ListComp, ast.DictComp, ast.SetComp, ast.comprehension, ast.Compare, ast.Eq, ast.NotEq, ast.Lt,
         ast.LtE, ast.Gt, ast.GtE, ast.Is, ast.IsNot, ast.In, ast.NotIn, ast.Call, ast.keyword, ast.JoinedStr,
         ast.FormattedValue, ast.Constant, ast.Attribute, ast.Subscript, ast.Starred, ast.Name, ast.List, ast.Tuple,
         ast.Slice, ast.Load, ast.Store, ast.Del, ast.Delete, ast.ImportFrom, ast.alias, ast.Try, ast.ExceptHandler)
FUNCTIONS = (ast.FunctionDef, ast.Lambda)


class Source:
    """A file of the package, its tree, and the parent of each node."""

    def __init__(self, name):
        self.name = name
        with open(os.path.join(FOLDER, name), encoding="utf-8", newline="") as file:
            self.text = file.read()
        self.tree = ast.parse(self.text)
        self.above = {}
        for node in ast.walk(self.tree):
            for child in ast.iter_child_nodes(node):
                self.above[child] = node
        self.imports = {alias.name for node in self.tree.body if isinstance(node, ast.ImportFrom)
                        for alias in node.names}
        self.classes = {node.name for node in self.tree.body if isinstance(node, ast.ClassDef)}
        self.defined = {node.name for node in self.tree.body if isinstance(node, (ast.FunctionDef, ast.ClassDef))}
        for node in self.tree.body:
            if isinstance(node, ast.Assign):
                self.defined.add(node.targets[0].id)

    def nodes(self, *kinds):
        return [node for node in ast.walk(self.tree) if isinstance(node, kinds)]

    def strings(self):
        """All string constants, but docstrings."""
        return [node for node in self.nodes(ast.Constant) if isinstance(node.value, str)
                and not isinstance(self.above[node], ast.Expr)]

    def bound(self):
        """All names of parameters and local variables."""
        names = {node.arg for node in self.nodes(ast.arg)}
        return names | {node.id for node in self.nodes(ast.Name) if isinstance(node.ctx, ast.Store)
                        and not isinstance(self.above[self.above[node]], ast.Module)}


def called(node):
    """The bare name, or the method, that a call calls."""
    return node.func.id if isinstance(node.func, ast.Name) else node.func.attr


def is_call(node, *names):
    return isinstance(node, ast.Call) and called(node) in names


SOURCES = [Source(name) for name in sorted(os.listdir(FOLDER)) if name.endswith(".py")]
OWN_METHODS = {part.name for source in SOURCES for node in source.nodes(ast.ClassDef) for part in node.body
               if isinstance(part, ast.FunctionDef)}
ATTRIBUTES = {node.attr for source in SOURCES for node in source.nodes(ast.Attribute)
              if isinstance(node.ctx, ast.Store)}


class LanguageTest(unittest.TestCase):

    def each(self, *kinds):
        for source in SOURCES:
            for node in source.nodes(*kinds):
                yield source, node, f"{source.name}:{getattr(node, 'lineno', 0)}"

    def test_folder_holds_plain_files_only(self):
        for name in os.listdir(FOLDER):
            if name != "__pycache__":
                self.assertRegex(name, r"^(__init__|[a-z][a-z0-9_]*)\.py$")
        self.assertIn("__init__.py", os.listdir(FOLDER))
        self.assertLessEqual(len(SOURCES), 100)

    def test_sizes_and_characters(self):
        for source in SOURCES:
            lines = source.text.split("\n")
            self.assertLessEqual(len(lines), 400, source.name)
            for at, line in enumerate(lines):
                self.assertLessEqual(len(line), 120, (source.name, at + 1))
                self.assertRegex(line, r"^[ -~]*$", (source.name, at + 1))
                self.assertEqual(line, line.rstrip(), (source.name, at + 1))
            self.assertNotIn("_wall", source.text)
        for _, node, where in self.each(ast.FunctionDef):
            self.assertLessEqual(node.end_lineno - node.lineno + 1, 40, where)

    def test_only_allowed_nodes(self):
        for _, node, where in self.each(ast.AST):
            self.assertIsInstance(node, NODES, where)
        for _, node, where in self.each(ast.FunctionDef, ast.ClassDef):
            self.assertEqual(node.decorator_list, [], where)
        for _, node, where in self.each(ast.Pow):
            self.fail(f"{where}: no exponents")

    def test_imports(self):
        defined = {source.name: source.defined for source in SOURCES}
        for source, node, where in self.each(ast.ImportFrom):
            self.assertIs(source.above[node], source.tree, where)
            self.assertEqual(node.level, 0, where)
            for alias in node.names:
                self.assertIsNone(alias.asname, where)
                if node.module in LIBRARY:
                    self.assertIn(alias.name, LIBRARY[node.module], where)
                else:
                    package, module = node.module.split(".")
                    self.assertEqual(package, "servedall", where)
                    self.assertIn(alias.name, defined[module + ".py"], where)
        for source in SOURCES:
            used = {node.id for node in source.nodes(ast.Name)}
            self.assertEqual(source.imports - used, set(), source.name)
            self.assertEqual(source.imports & source.defined, set(), source.name)

    def test_no_round_of_imports(self):
        to = {source.name: {node.module.split(".")[1] + ".py" for node in source.nodes(ast.ImportFrom)
                            if node.module.startswith("servedall.")} for source in SOURCES}
        while to:
            free = [name for name in to if not to[name] & set(to)]
            self.assertNotEqual(free, [], sorted(to))
            for name in free:
                del to[name]

    def check_plain(self, value, defined, where):
        """A plain value, or a dict of such and of functions that are defined above."""
        if isinstance(value, ast.Dict):
            for part in value.keys + [part for part in value.values if not isinstance(part, ast.Name)]:
                ast.literal_eval(part)
                self.assertFalse([inner for inner in ast.walk(part) if isinstance(inner, (ast.List, ast.Dict))], where)
            self.assertLessEqual({part.id for part in value.values if isinstance(part, ast.Name)}, defined, where)
        else:
            ast.literal_eval(value)

    def test_module_level(self):
        for source in SOURCES:
            seen = set()
            behind = False
            for at, node in enumerate(source.tree.body):
                where = f"{source.name}:{node.lineno}"
                if isinstance(node, ast.Expr):
                    self.assertEqual(at, 0, where)
                    continue
                self.assertIsInstance(node, (ast.ImportFrom, ast.FunctionDef, ast.ClassDef, ast.Assign), where)
                if isinstance(node, ast.ImportFrom):
                    self.assertFalse(behind, where)
                    continue
                behind = True
                name = node.targets[0].id if isinstance(node, ast.Assign) else node.name
                self.assertNotIn(name, seen, where)
                seen.add(name)
                if isinstance(node, ast.Assign):
                    self.assertEqual(len(node.targets), 1, where)
                    self.check_plain(node.value, seen, where)
            self.assertIsNotNone(ast.get_docstring(source.tree), source.name)

    def test_names(self):
        # Tests of examples leave their last value there, under this name.
        known = set(dir(builtins)) - {"_"}
        for source in SOURCES:
            for name in source.bound() | source.defined | {node.name for node in source.nodes(ast.FunctionDef)}:
                self.assertNotIn(name, NOWHERE, source.name)
                if not (name.startswith("__") and name.endswith("__")):
                    self.assertNotIn(name, known, source.name)
                    self.assertRegex(name, r"^(_?[A-Za-z][A-Za-z0-9_]*|_)$", source.name)
            self.assertEqual(source.bound() & (source.imports | source.classes | source.defined), set(), source.name)
            self.assertNotIn("_", [node.id for node in source.nodes(ast.Name) if isinstance(node.ctx, ast.Load)])
            for node in source.nodes(ast.Name):
                if isinstance(node.ctx, ast.Load) and node.id in known:
                    self.assertIn(node.id, CALLED | ERRORS, f"{source.name}:{node.lineno}")

    def test_attributes_and_methods(self):
        for source, node, where in self.each(ast.Attribute):
            self.assertNotIn(node.attr, NOWHERE | {"args", "sort"}, where)
            if is_call(source.above[node], node.attr) and source.above[node].func is node:
                self.assertIn(node.attr, METHODS | OWN_METHODS, where)
            else:
                self.assertIn(node.attr, ATTRIBUTES, where)
            if isinstance(node.ctx, ast.Store):
                self.assertEqual(node.value.id, "self", where)

    def test_classes(self):
        for source, node, where in self.each(ast.ClassDef):
            self.assertIs(source.above[node], source.tree, where)
            for part in node.body:
                if isinstance(part, ast.FunctionDef) and part.name.startswith("__"):
                    self.assertIn(part.name, ("__init__", "__eq__"), where)
                elif not isinstance(part, ast.FunctionDef):
                    self.assertIsInstance(part, ast.Expr, where)
                if isinstance(part, ast.FunctionDef) and part.name == "__eq__":
                    self.assertRegex(" ".join(map(ast.unparse, part.body[0].value.values)),
                                     r"^isinstance\(other, \w+\)( self\.(\w+) == other\.\2)+$", where)
                    self.assertEqual(len(part.body), 1, where)

    def test_methods(self):
        self.assertEqual(OWN_METHODS & (METHODS | CHANGING), set())
        for source, node, where in self.each(ast.ClassDef):
            own = [part.name for part in node.body if isinstance(part, ast.FunctionDef)]
            held = {inner.attr for inner in ast.walk(node) if isinstance(inner, ast.Attribute)
                    and isinstance(inner.ctx, ast.Store)}
            self.assertEqual((len(own), held & set(own)), (len(set(own)), set()), where)
            for part in node.body:
                if isinstance(part, ast.FunctionDef):
                    self.assertEqual(part.args.args[0].arg, "self", where)

    def test_stars_in_calls(self):
        for _, node, where in self.each(ast.Call):
            for part in [part.value for part in node.args if isinstance(part, ast.Starred)]:
                self.assertIsInstance(part, (ast.Name, ast.Tuple, ast.List), where)
            self.assertNotIn(None, [keyword.arg for keyword in node.keywords], where)

    def test_dicts_and_lists_at_module_level_are_only_read(self):
        for source in SOURCES:
            held = {node.targets[0].id for node in source.tree.body if isinstance(node, ast.Assign)
                    and isinstance(node.value, (ast.Dict, ast.List))}
            for node in source.nodes(ast.Name):
                if node.id in held and isinstance(node.ctx, ast.Load):
                    above = source.above[node]
                    read = (isinstance(above, ast.Subscript) and isinstance(above.ctx, ast.Load)
                            or isinstance(above, ast.Compare) and above.comparators == [node]
                            or isinstance(above, ast.Attribute) and above.attr == "get")
                    self.assertTrue(read, f"{source.name}:{node.lineno}")

    def test_calls_of_builtins(self):
        keywords = {"sorted": {"key", "reverse"}, "min": {"key", "default"}, "max": {"key", "default"},
                    "sum": {"start"}, "enumerate": {"start"}, "zip": {"strict"}}
        for source, node, where in self.each(ast.Name):
            if node.id in CALLED and isinstance(node.ctx, ast.Load):
                call = source.above[node]
                if node.id in ("int", "str", "bool", "list", "tuple", "dict") and is_call(call, "isinstance"):
                    continue
                self.assertTrue(is_call(call, node.id) and call.func is node, where)
                self.assertLessEqual({keyword.arg for keyword in call.keywords}, keywords.get(node.id, set()), where)
        for source, node, where in self.each(ast.Call):
            if isinstance(node.func, ast.Attribute):
                self.assertEqual(node.keywords, [], where)
                if node.func.attr == "join":
                    self.assertIsInstance(node.func.value, ast.Constant, where)
            for part in [*node.args, *[keyword.value for keyword in node.keywords]]:
                if isinstance(part, ast.Name):
                    self.assertNotIn(part.id, source.classes - {node.args[-1].id
                                     if is_call(node, "isinstance") else ""}, where)

    def is_at_once(self, source, node):
        above = source.above[node]
        if isinstance(above, (ast.For, ast.comprehension)):
            return above.iter is node
        return is_call(above, "list", "tuple", "dict", "sorted", "sum", "any", "all", "enumerate", "zip", "min", "max")

    def test_iterated_at_once(self):
        for source, node, where in self.each(ast.Call):
            if is_call(node, *AT_ONCE) and isinstance(node.func, ast.Name):
                self.assertTrue(self.is_at_once(source, node), where)
            if isinstance(node.func, ast.Attribute) and node.func.attr in VIEWS:
                self.assertTrue(self.is_at_once(source, node), where)
            if is_call(node, "combinations", "permutations", "product"):
                self.assertTrue(self.is_at_once(source, node), where)
                self.assertIsInstance(node.args[0], ast.Name, where)
            if is_call(node, "range"):
                above = source.above[node]
                kept = isinstance(above, ast.Assign) and isinstance(above.targets[0], ast.Name)
                held = isinstance(above, ast.Compare) or is_call(above, "len", "reversed")
                self.assertTrue(kept or held or self.is_at_once(source, node), where)

    def test_sets(self):
        for source, node, where in self.each(ast.SetComp, ast.Call):
            if isinstance(node, ast.SetComp) or is_call(node, "set"):
                above = source.above[node]
                stored = isinstance(above, ast.Assign) and isinstance(above.targets[0], ast.Name)
                self.assertTrue(stored or is_call(above, "sorted", "len"), where)

    def test_loops_do_not_change_what_they_go_over(self):
        for _, node, where in self.each(ast.For):
            over = ast.unparse(node.iter)
            for inner in ast.walk(ast.Module(node.body, [])):
                if isinstance(inner, ast.Call) and isinstance(inner.func, ast.Attribute):
                    if inner.func.attr in CHANGING:
                        self.assertNotIn(ast.unparse(inner.func.value), (over, over.split("(")[-1].rstrip(")")), where)
                if isinstance(inner, ast.Subscript) and isinstance(inner.ctx, (ast.Store, ast.Del)):
                    name = ast.unparse(inner.value)
                    self.assertFalse(over == name or over in (f"{name}.items()", f"enumerate({name})"), where)

    def test_strings(self):
        for source, node, where in [(source, node, f"{source.name}:{node.lineno}") for source in SOURCES
                                    for node in source.strings()]:
            self.assertNotIn("%", node.value, where)
            self.assertIsNone(WORDS.search(node.value), where)
            self.assertFalse(node.value.startswith("__"), where)
        for source in SOURCES:
            with open(os.path.join(FOLDER, source.name), "rb") as file:
                for token in tokenize.tokenize(file.readline):
                    if token.type == tokenize.STRING and "\\" in token.string:
                        self.assertRegex(token.string, r'^[^\\]*(\\[nt\\"\'][^\\]*)*$')
                    if token.type == tokenize.NAME:
                        self.assertIsNone(WORDS.search(token.string), (source.name, token.start))
        for source, node, where in self.each(ast.JoinedStr):
            for part in ast.walk(node):
                if isinstance(part, ast.FormattedValue):
                    self.assertFalse([inner for inner in ast.walk(part.value)
                                      if isinstance(inner, (ast.JoinedStr, ast.Constant))
                                      and not isinstance(getattr(inner, "value", ""), int)], where)

    def test_values(self):
        for _, node, where in self.each(ast.Constant):
            self.assertIsInstance(node.value, (int, str, type(None)), where)
        for _, node, where in self.each(ast.Compare):
            for sign, right in zip(node.ops, node.comparators):
                if isinstance(sign, (ast.Is, ast.IsNot)):
                    self.assertIsInstance(right, ast.Constant, where)
                    self.assertIn(right.value, (None, True, False), where)
        for _, node, where in self.each(ast.Raise):
            self.assertIsInstance(node.exc, ast.Call, where)
        for _, node, where in self.each(ast.FunctionDef):
            for part in node.args.defaults + node.args.kw_defaults:
                self.assertIsInstance(part, ast.Constant, where)
            for part in [*node.args.args, node.args.vararg, node.args.kwarg]:
                self.assertIsNone(getattr(part, "annotation", None), where)

    def test_lambdas_stand_alone_in_their_lines(self):
        seen = set()
        for source, node, _ in self.each(ast.Lambda):
            self.assertNotIn((source.name, node.lineno), seen)
            seen.add((source.name, node.lineno))


if __name__ == "__main__":
    unittest.main()
