"""The package keeps to the small part of Python that it's written in, as far as a walk over its files can tell."""

import ast
import builtins
import pathlib
import re
import unittest

PACKAGE = pathlib.Path(__file__).resolve().parent.parent / "searchefforts"
FILES = sorted(PACKAGE.rglob("*.py"))

OWN_NAMES = (
    "len range enumerate zip min max sum abs sorted reversed int str bool list tuple dict set frozenset isinstance ord "
    "repr any all divmod Exception ValueError TypeError KeyError IndexError LookupError ZeroDivisionError "
    "ArithmeticError OverflowError RuntimeError NotImplementedError AttributeError StopIteration"
).split()
OWN_METHODS = (
    "append clear copy count endswith extend find get index insert isalnum isalpha isdigit islower isspace isupper "
    "items join keys ljust lower lstrip partition pop remove replace reverse rfind rjust rpartition rsplit rstrip "
    "setdefault split splitlines startswith strip update upper values zfill bit_length"
).split()
WORDS_OUT = (
    "type typing typing_extensions enum Enum IntEnum StrEnum Flag IntFlag Generic Protocol ABC ABCMeta namedtuple "
    "NamedTuple TypedDict TYPE_CHECKING abstractmethod"
).split()
NAMES_OUT = (
    "register mro elements open input version_info with_traceback add_note attrgetter breakpoint builtins compile "
    "copyright credits delattr dir eval exec exit gc getattr globals hasattr help id importlib license locals "
    "methodcaller os quit setattr super type vars sys format format_map"
).split()
STATEMENTS = (
    ast.Assign, ast.AugAssign, ast.If, ast.While, ast.For, ast.Return, ast.Break, ast.Continue, ast.Pass, ast.Raise,
    ast.Try, ast.Expr, ast.FunctionDef, ast.ClassDef, ast.ImportFrom,
)
EXPRESSIONS_OUT = (
    ast.Div, ast.MatMult, ast.SetComp, ast.DictComp, ast.GeneratorExp, ast.NamedExpr, ast.Starred, ast.Yield,
    ast.YieldFrom, ast.Await, ast.AnnAssign,
)


def nodes(tree, *kinds):
    return [node for node in ast.walk(tree) if isinstance(node, kinds)]


def is_plain(value, defined):
    if isinstance(value, (ast.List, ast.Tuple)):
        return all([is_plain(part, defined) for part in value.elts])
    if isinstance(value, ast.Dict):
        return all([is_plain(part, defined) for part in value.keys + value.values])
    if isinstance(value, ast.UnaryOp):
        return isinstance(value.op, ast.USub) and is_plain(value.operand, defined)
    return isinstance(value, ast.Constant) or isinstance(value, ast.Name) and value.id in defined


def own_names_in(tree):
    names = [node.name for node in nodes(tree, ast.FunctionDef, ast.ClassDef)]
    names += [node.id for node in nodes(tree, ast.Name) if isinstance(node.ctx, ast.Store)]
    names += [node.arg for node in nodes(tree, ast.arg)]
    names += [handler.name for handler in nodes(tree, ast.ExceptHandler) if handler.name]
    return names + [alias.name for node in nodes(tree, ast.ImportFrom) for alias in node.names]


class Language(unittest.TestCase):
    def setUp(self):
        self.texts = {path: path.read_text(encoding="utf-8") for path in FILES}
        self.trees = {path: ast.parse(text) for path, text in self.texts.items()}

    def each(self, *kinds):
        return [(node, f"{path.name}:{node.lineno}") for path in FILES for node in nodes(self.trees[path], *kinds)]

    def test_files(self):
        self.assertIn(PACKAGE / "__init__.py", FILES)
        others = [path for path in PACKAGE.rglob("*") if path not in FILES and "__pycache__" not in path.parts]
        self.assertEqual(others, [])
        for path, text in self.texts.items():
            self.assertRegex(path.stem, r"^([a-z][a-z0-9_]*|__init__|__main__)$")
            self.assertNotIn(path.stem, dir(builtins))
            self.assertRegex(text, r"^[ -~\n]*$", path.name)
            self.assertLessEqual(text.count("\n"), 400, path.name)
            self.assertLessEqual(max([len(line) for line in text.split("\n")]), 120, path.name)
            self.assertEqual([word for word in re.findall(r"\w+", text) if word in WORDS_OUT], [], path.name)
            self.assertNotRegex(text, "dataclass|overload|contextmanager", path.name)

    def test_imports_are_the_packages_own_and_in_no_circle(self):
        drawn = {}
        for path, tree in self.trees.items():
            imports = nodes(tree, ast.ImportFrom)
            self.assertTrue(all([node in tree.body for node in imports]), path.name)
            drawn[f"searchefforts.{path.stem}"] = [node.module for node in imports]
            for node in imports:
                self.assertEqual(node.level, 0, path.name)
                source = self.trees[PACKAGE / (node.module.split(".")[1] + ".py")]
                tops = [top.name for top in source.body if isinstance(top, (ast.FunctionDef, ast.ClassDef))]
                tops += [top.targets[0].id for top in source.body if isinstance(top, ast.Assign)]
                self.assertEqual([alias.name for alias in node.names if alias.name not in tops or alias.asname], [])
        while drawn:
            done = [name for name, sources in drawn.items() if not [source for source in sources if source in drawn]]
            self.assertTrue(done, "files draw from one another: " + ", ".join(drawn))
            for name in done:
                drawn.pop(name)

    def test_the_top_of_a_file(self):
        for path, tree in self.trees.items():
            self.assertTrue(ast.get_docstring(tree), path.name)
            defined = []
            for node in tree.body[1:]:
                self.assertIsInstance(node, (ast.ImportFrom, ast.FunctionDef, ast.ClassDef, ast.Assign), path.name)
                if isinstance(node, ast.Assign):
                    self.assertTrue(is_plain(node.value, defined), f"{path.name}:{node.lineno}")
                    self.assertNotIn(node.targets[0].id, defined)
                    defined.append(node.targets[0].id)
                elif not isinstance(node, ast.ImportFrom):
                    self.assertNotIn(node.name, defined)
                    defined.append(node.name)

    def test_functions_and_classes(self):
        for node, place in self.each(ast.FunctionDef):
            self.assertLessEqual(node.end_lineno - node.lineno + 1, 40, place)
            plain = node.args
            self.assertFalse(node.decorator_list or plain.vararg or plain.kwarg or plain.kwonlyargs, place)
            self.assertFalse(plain.posonlyargs or node.returns or [arg for arg in plain.args if arg.annotation], place)
        for node, place in self.each(ast.ClassDef):
            self.assertFalse(node.decorator_list or node.keywords or len(node.bases) > 1, place)
        methods = [part.name for node, place in self.each(ast.ClassDef) for part in node.body if hasattr(part, "name")]
        stored = [node.attr for node, place in self.each(ast.Attribute) if isinstance(node.ctx, ast.Store)]
        self.assertEqual(set(methods) & set(stored), set())

    def test_statements_and_expressions(self):
        for node, place in self.each(ast.stmt):
            self.assertIsInstance(node, STATEMENTS, place)
            self.assertFalse(isinstance(node, (ast.For, ast.While)) and node.orelse, place)
            self.assertFalse(isinstance(node, ast.Assign) and len(node.targets) > 1, place)
            self.assertFalse(isinstance(node, ast.Try) and node.finalbody, place)
            if isinstance(node, ast.Expr) and not isinstance(node.value, ast.Call):
                self.assertIn(node, [tree.body[0] for tree in self.trees.values()], place)
        for path, tree in self.trees.items():
            self.assertEqual(nodes(tree, *EXPRESSIONS_OUT), [], path.name)
        for node, place in self.each(ast.Constant):
            self.assertNotIsInstance(node.value, (float, complex, bytes), place)
        for node, place in self.each(ast.ListComp):
            self.assertTrue(len(node.generators) == 1 and len(node.generators[0].ifs) < 2, place)
        for node, place in self.each(ast.BinOp):
            if isinstance(node.op, ast.Pow):
                self.assertTrue(isinstance(node.right, ast.Constant) and 0 <= node.right.value <= 64, place)
        for node, place in self.each(ast.Compare):
            if [op for op in node.ops if isinstance(op, (ast.Is, ast.IsNot))]:
                self.assertIn(getattr(node.comparators[0], "value", 0), (None, True, False), place)

    def test_walked_at_once(self):
        walked = [node.iter for node, place in self.each(ast.For)]
        walked += [part.iter for path in FILES for part in nodes(self.trees[path], ast.comprehension)]
        for node, place in self.each(ast.Call):
            if getattr(node.func, "id", "") in ("list tuple dict sorted sum any all enumerate zip min max".split()):
                walked += node.args[:1]
        for node, place in self.each(ast.Call):
            if getattr(node.func, "id", "") in ("zip", "enumerate", "reversed", "range"):
                self.assertIn(node, walked, place)
            if getattr(node.func, "attr", "") in ("items", "keys", "values"):
                self.assertIn(node, walked, place)

    def test_what_a_loop_walks_is_not_changed_in_it(self):
        changing = "append clear extend insert pop remove reverse setdefault update".split()
        for loop, place in self.each(ast.For):
            walked = [ast.dump(loop.iter)] + [ast.dump(part) for part in getattr(loop.iter, "args", [])]
            for node in nodes(loop, ast.Call):
                if getattr(node.func, "attr", "") in changing:
                    self.assertNotIn(ast.dump(node.func.value), walked, place)
            for node in nodes(loop, ast.Subscript):
                if isinstance(node.ctx, ast.Store):
                    self.assertNotIn(ast.dump(node.value), walked, place)

    def test_names(self):
        for path, tree in self.trees.items():
            own = own_names_in(tree)
            for name in own:
                self.assertRegex(name, r"^([a-zA-Z]\w*|__(init|eq|repr|str|len)__)$", path.name)
                self.assertNotIn(name, dir(builtins) + NAMES_OUT, path.name)
            for node in nodes(tree, ast.Name):
                self.assertIn(node.id, own + OWN_NAMES, f"{path.name}:{node.lineno}")
            outer = [alias.name for node in nodes(tree, ast.ImportFrom) for alias in node.names]
            outer += [node.name for node in nodes(tree, ast.ClassDef)]
            bound = [node.arg for node in nodes(tree, ast.arg)]
            bound += [node.id for node in nodes(tree, ast.Name) if isinstance(node.ctx, ast.Store)]
            self.assertEqual(set(outer) & set(bound), set(), path.name)

    def test_methods_and_values_of_objects(self):
        methods = [part.name for node, place in self.each(ast.ClassDef) for part in node.body if hasattr(part, "name")]
        for node, place in self.each(ast.Call):
            if isinstance(node.func, ast.Attribute):
                self.assertIn(node.func.attr, OWN_METHODS + methods, place)
        taken = [name for kind in (str, int, list, dict, set, bytes) for name in dir(kind) if name != "__init__"]
        for node, place in self.each(ast.Attribute):
            self.assertNotIn(node.attr, NAMES_OUT, place)
            if isinstance(node.ctx, ast.Store):
                self.assertNotIn(node.attr, taken, place)


if __name__ == "__main__":
    unittest.main()
