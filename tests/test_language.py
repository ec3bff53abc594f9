"""The subset of the language that the package is written in, as far as a short reading of the files can tell."""

import ast
import pathlib
import re
import unittest

PACKAGE = pathlib.Path(__file__).parent.parent / "silentbeats"

BUILTINS = (
    "len range enumerate zip min max sum abs sorted reversed int str bool list tuple dict set isinstance ord repr any "
    "all divmod iter super property staticmethod classmethod ValueError"
).split()
METHODS = (
    "append clear copy count endswith extend find get index insert isalnum isalpha isdigit islower isspace isupper items "
    "join keys ljust lower lstrip partition pop remove replace reverse rfind rjust rpartition rsplit rstrip setdefault "
    "split splitlines startswith strip update upper values zfill bit_length isascii"
).split()
LIBRARY = {"math": ("gcd", "lcm", "isqrt", "comb", "perm", "factorial"), "heapq": ("heappush", "heappop", "heapify")}
DUNDERS = (
    "__init__ __eq__ __str__ __len__ __call__ __iter__ __add__ __sub__ __mul__ __pow__ __and__ __or__ __neg__ __invert__ "
    "__contains__ __getitem__"
).split()
BARRED_NAMES = (
    "register mro elements open input law version_info with_traceback add_note attrgetter breakpoint builtins compile "
    "copyright credits delattr dir eval exec exit gc getattr globals hasattr help id importlib license locals "
    "methodcaller os quit setattr type vars sys map hash next round filter pow bin hex slice object format print"
).split()
BARRED_WORDS = (
    "type typing typing_extensions enum Enum IntEnum StrEnum Flag IntFlag Generic Protocol ABC ABCMeta namedtuple "
    "NamedTuple TypedDict TYPE_CHECKING abstractmethod"
).split()
NODES = (
    ast.Module, ast.Expr, ast.ImportFrom, ast.alias, ast.FunctionDef, ast.arguments, ast.arg, ast.ClassDef, ast.Assign,
    ast.AugAssign, ast.Return, ast.If, ast.For, ast.While, ast.Raise, ast.Pass, ast.Break, ast.Continue, ast.Name,
    ast.Constant, ast.Tuple, ast.List, ast.Dict, ast.ListComp, ast.SetComp, ast.DictComp, ast.comprehension, ast.Call,
    ast.keyword, ast.Attribute, ast.Subscript, ast.Slice, ast.BinOp, ast.UnaryOp, ast.BoolOp, ast.Compare, ast.IfExp, ast.JoinedStr,
    ast.FormattedValue, ast.Starred, ast.expr_context, ast.operator, ast.unaryop, ast.boolop, ast.cmpop,
)
CHANGING = {"LiveScore": ["happen", "go", "undo", "do_all", "note"], "Desk": ["say"]}
BARRED_NODES = (ast.Div, ast.Pow, ast.MatMult)


def read_package():
    """The texts of all files by their names."""
    return {path.name: path.read_bytes().decode("ascii") for path in sorted(PACKAGE.glob("*.py"))}


def walked(tree, kinds):
    return [node for node in ast.walk(tree) if isinstance(node, kinds)]


def bound_names(function):
    """The parameters and the local variables of a function, those of comprehensions too."""
    spec = function.args
    parameters = [each.arg for each in spec.args + spec.kwonlyargs + [x for x in (spec.vararg, spec.kwarg) if x]]
    return parameters + [node.id for node in walked(function, ast.Name) if isinstance(node.ctx, ast.Store)]


def without_docstrings(tree):
    """The strings of a file that are no docstrings."""
    docs = [
        node.body[0].value for node in walked(tree, (ast.Module, ast.ClassDef, ast.FunctionDef))
        if node.body and isinstance(node.body[0], ast.Expr)
    ]
    return [node for node in walked(tree, ast.Constant) if isinstance(node.value, str) and node not in docs]


class Language(unittest.TestCase):
    def setUp(self):
        self.texts = read_package()
        self.trees = {name: ast.parse(text) for name, text in self.texts.items()}

    def each(self, kinds):
        """All nodes of these kinds, with where they stand."""
        return [(f"{name}:{getattr(node, 'lineno', 0)}", node)
                for name, tree in self.trees.items() for node in walked(tree, kinds)]

    def test_only_plain_files(self):
        for path in PACKAGE.iterdir():
            if path.name != "__pycache__":
                self.assertRegex(path.name, r"^[a-z_]+\.py$")

    def test_characters_and_sizes(self):
        for name, text in self.texts.items():
            self.assertIsNone(re.search(r"[^ -~\n]", text), name)
            lines = text.splitlines()
            self.assertLessEqual(len(lines), 399, name)
            self.assertLessEqual(max(len(line) for line in lines), 120, name)
            self.assertTrue(text.endswith("\n"), name)
        for where, node in self.each(ast.FunctionDef):
            self.assertLessEqual(node.end_lineno - node.lineno + 1, 40, where)

    def test_statements_and_expressions(self):
        for where, node in self.each(ast.AST):
            self.assertIsInstance(node, NODES, f"{where} {type(node).__name__}")
            self.assertNotIsInstance(node, BARRED_NODES, where)

    def test_docstrings(self):
        for where, node in self.each((ast.Module, ast.ClassDef, ast.FunctionDef)):
            if not getattr(node, "name", "").startswith("_"):
                self.assertTrue(ast.get_docstring(node), where)

    def test_module_level(self):
        for name, tree in self.trees.items():
            for node in tree.body[1:]:
                self.assertIsInstance(node, (ast.ImportFrom, ast.FunctionDef, ast.ClassDef, ast.Assign), name)
                if isinstance(node, ast.Assign):
                    self.check_value(node, [each.name for each in tree.body if each.lineno < node.lineno
                                            and isinstance(each, ast.FunctionDef)])

    def check_value(self, node, above):
        """Whether a plain value is assigned, or a table of tuples, or of functions above it."""
        if isinstance(node.value, ast.Dict):
            for key, value in zip(node.value.keys, node.value.values):
                self.assertIsInstance(key, ast.Constant)
                if isinstance(value, ast.Name):
                    self.assertIn(value.id, above)
                else:
                    self.assertIsInstance(ast.literal_eval(value), tuple)
        else:
            self.assertIsInstance(node.value, ast.Constant)

    def test_imports(self):
        defined = {name: [node.name for node in tree.body if isinstance(node, (ast.FunctionDef, ast.ClassDef))]
                   + [node.targets[0].id for node in tree.body if isinstance(node, ast.Assign)]
                   for name, tree in self.trees.items()}
        for where, node in self.each(ast.ImportFrom):
            self.assertEqual(node.level, 0, where)
            for alias in node.names:
                self.assertIsNone(alias.asname, where)
                if node.module in LIBRARY:
                    self.assertIn(alias.name, LIBRARY[node.module], where)
                else:
                    package, file = node.module.split(".")
                    self.assertEqual(package, "silentbeats", where)
                    self.assertIn(alias.name, defined[f"{file}.py"], where)

    def test_imports_are_used_and_run_one_way(self):
        ahead = {}
        for name, tree in self.trees.items():
            used = [node.id for node in walked(tree, ast.Name)]
            ahead[name] = set()
            for node in walked(tree, ast.ImportFrom):
                ahead[name].add(node.module.split(".")[-1] + ".py")
                for alias in node.names:
                    self.assertIn(alias.name, used, name)
        done = {f"{name}.py" for name in LIBRARY}
        while left := [name for name in ahead if name not in done]:
            ready = [name for name in left if ahead[name] <= done]
            self.assertTrue(ready, f"imports in a circle: {left}")
            done.update(ready)

    def test_names(self):
        for name, tree in self.trees.items():
            top = [node.name for node in tree.body if isinstance(node, (ast.FunctionDef, ast.ClassDef))]
            top += [alias.name for node in walked(tree, ast.ImportFrom) for alias in node.names]
            self.assertEqual(len(top), len(set(top)), name)
            for function in walked(tree, ast.FunctionDef):
                for bound in bound_names(function):
                    self.assertNotIn(bound, top, f"{name}:{function.lineno}")
                    self.assertNotIn(bound, BUILTINS + BARRED_NAMES, f"{name}:{function.lineno}")
                if function.name.startswith("__"):
                    self.assertIn(function.name, DUNDERS, name)
                else:
                    self.assertNotIn(function.name, BUILTINS + BARRED_NAMES + METHODS, name)

    def test_words(self):
        for where, node in self.each(ast.Constant):
            self.assertNotIsInstance(node.value, (float, complex, bytes), where)
        for name, tree in self.trees.items():
            self.assertIsNone(re.search(r"\(type\)|Meta|metaclass|_wall|_WallAttr|\\[^n]", self.texts[name]), name)
            names = [node.id for node in walked(tree, ast.Name)] + [node.attr for node in walked(tree, ast.Attribute)]
            strings = [node.value for node in without_docstrings(tree)]
            for word in re.findall(r"\w+", " ".join(names + strings)):
                self.assertNotIn(word, BARRED_WORDS, name)
            for string in [node.value for node in walked(tree, ast.Constant) if isinstance(node.value, str)]:
                self.assertNotIn(chr(37), string, name)

    def test_called_names(self):
        own = [node.name for _, node in self.each((ast.FunctionDef, ast.ClassDef))]
        for name, tree in self.trees.items():
            known = BUILTINS + [bound for function in walked(tree, ast.FunctionDef) for bound in bound_names(function)]
            known += [node.name for node in tree.body if isinstance(node, (ast.FunctionDef, ast.ClassDef))]
            known += [node.targets[0].id for node in tree.body if isinstance(node, ast.Assign)]
            known += [alias.name for node in walked(tree, ast.ImportFrom) for alias in node.names]
            known += [node.targets[0].id for body in walked(tree, ast.ClassDef) for node in body.body
                      if isinstance(node, ast.Assign)]
            for node in walked(tree, ast.Name):
                self.assertIn(node.id, known, f"{name}:{node.lineno}")
            for node in walked(tree, ast.Call):
                if isinstance(node.func, ast.Attribute):
                    self.assertIn(node.func.attr, METHODS + own, f"{name}:{node.lineno}")
                if isinstance(node.func, ast.Name) and node.func.id in BUILTINS:
                    taken = ["default"] if node.func.id in ("max", "min") and len(node.args) == 1 else []
                    self.assertTrue(all(each.arg in taken for each in node.keywords), f"{name}:{node.lineno}")

    def test_stars_stand_before_names(self):
        for where, node in self.each(ast.Starred):
            self.assertIsInstance(node.value, ast.Name, where)

    def test_is_goes_with_none(self):
        for where, node in self.each(ast.Compare):
            for sign, right in zip(node.ops, node.comparators):
                if isinstance(sign, (ast.Is, ast.IsNot)):
                    self.assertTrue(isinstance(right, ast.Constant) and right.value is None, where)

    def test_sets_are_sorted_on_the_spot(self):
        in_place = [node.args[0] for _, node in self.each(ast.Call)
                    if isinstance(node.func, ast.Name) and node.func.id == "sorted" and len(node.args) == 1]
        for where, node in self.each(ast.SetComp):
            self.assertIn(node, in_place, where)

    def test_kept_ranges_and_the_like(self):
        for where, node in self.each(ast.Assign):
            self.assertFalse(isinstance(node.value, ast.Call) and isinstance(node.value.func, ast.Name)
                             and node.value.func.id in ("range", "zip", "enumerate", "reversed", "set", "iter"), where)

    def test_raised_errors(self):
        errors = [node.name for node in self.trees["errors.py"].body if isinstance(node, ast.ClassDef)]
        for where, node in self.each(ast.Raise):
            self.assertIsInstance(node.exc, ast.Call, where)
            self.assertIn(node.exc.func.id, errors, where)

    def test_no_annotations_and_few_decorators(self):
        for where, node in self.each(ast.FunctionDef):
            self.assertIsNone(node.returns, where)
            self.assertTrue(all(arg.annotation is None for arg in walked(node.args, ast.arg)), where)
            for decorator in node.decorator_list:
                self.assertIn(decorator.id, ("property", "staticmethod", "classmethod"), where)

    def test_steps_in_place_are_whole(self):
        for where, node in self.each(ast.AugAssign):
            self.assertIsInstance(node.target, ast.Name, where)
            self.assertIsInstance(node.value, ast.Constant, where)

    def test_attributes_are_set_in_init_or_by_what_changes(self):
        for name, tree in self.trees.items():
            for body in walked(tree, ast.ClassDef):
                may = ["__init__"] + CHANGING.get(body.name, [])
                for function in walked(body, ast.FunctionDef):
                    if function.name not in may:
                        self.assertEqual(self.set_by(function), [], f"{name}:{function.lineno}")
            for function in [node for node in tree.body if isinstance(node, ast.FunctionDef)]:
                self.assertEqual(self.set_by(function), [], f"{name}:{function.lineno}")

    def set_by(self, function):
        """The attributes that a function sets."""
        return [node.attr for node in walked(function, ast.Attribute) if isinstance(node.ctx, ast.Store)]

    def test_operators_and_properties_change_nothing(self):
        """What they call, and what this calls, by its names: none of it sets an attribute."""
        functions = {}
        for _, node in self.each(ast.FunctionDef):
            functions.setdefault(node.name, []).append(node)
        todo = [node.name for _, node in self.each(ast.FunctionDef)
                if node.name.startswith("__") and node.name not in ("__init__", "__call__")
                or [each for each in node.decorator_list if each.id == "property"]]
        done = []
        while todo:
            name = todo.pop()
            done.append(name)
            for function in functions[name]:
                self.assertEqual(self.set_by(function), [], name)
                named = [node.id for node in walked(function, ast.Name)]
                named += [node.attr for node in walked(function, ast.Attribute)]
                todo += [each for each in set(named) if each in functions and each not in done + todo]

    def test_items_are_set_in_own_lists_alone(self):
        """What an operator runs changes no list but one that the function itself makes."""
        for where, function in self.each(ast.FunctionDef):
            made = [node.targets[0].id for node in walked(function, ast.Assign)
                    if isinstance(node.targets[0], ast.Name) and self.makes_list(node.value)]
            for node in walked(function, ast.Subscript):
                if isinstance(node.ctx, ast.Store):
                    self.assertIn(node.value.id, made, where)
            for node in walked(function, ast.Call):
                if isinstance(node.func, ast.Attribute) and node.func.attr == "append":
                    self.assertIn(node.func.value.id, made, where)

    def makes_list(self, node):
        called = isinstance(node, ast.Call) and isinstance(node.func, ast.Name) and node.func.id in ("list", "dict", "sorted")
        return called or isinstance(node, (ast.List, ast.ListComp, ast.Dict))

    def test_double_underscore_methods(self):
        for where, node in self.each(ast.FunctionDef):
            if node.name in ("__len__", "__str__", "__iter__"):
                self.assertEqual(len(node.body), 1, where)
                called = {"__len__": "len", "__str__": "str", "__iter__": "iter"}[node.name]
                self.assertEqual(node.body[0].value.func.id, called, where)
            if node.name == "__init__":
                self.assertEqual(walked(node, ast.Return), [], where)


if __name__ == "__main__":
    unittest.main()
