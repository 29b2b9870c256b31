"""The package keeps to its subset of Python, as far as a look at the syntax can tell."""

import ast
import builtins
import os
import re
import unittest

FOLDER = os.path.join(os.path.dirname(os.path.dirname(os.path.abspath(__file__))), "rimcords")
LIBRARY = {"heapq": {"heappush", "heappop", "heapify", "heapreplace", "heappushpop"},
           "math": {"gcd", "lcm", "isqrt", "comb", "perm", "factorial"}}
BUILTINS = set("""len range enumerate zip min max sum abs sorted reversed int str bool list tuple dict isinstance ord
    repr any all divmod iter property ValueError""".split())
METHODS = set("""__init__ __eq__ __len__ __call__ __iter__ __add__ __sub__ __mul__ __contains__ __pow__
    __rshift__ __enter__ __exit__""".split())
BARRED = (ast.Global, ast.AsyncFunctionDef, ast.AsyncFor, ast.AsyncWith, ast.Await, ast.Div, ast.MatMult, ast.AnnAssign,
          ast.Set, ast.SetComp, ast.GeneratorExp, ast.YieldFrom, ast.Import, ast.NamedExpr)


def sources():
    found = {}
    for name in sorted(os.listdir(FOLDER)):
        if name != "__pycache__":
            with open(os.path.join(FOLDER, name), encoding="utf-8") as source:
                found[name] = source.read()
    return found


def bound_names(tree):
    """All names of variables, parameters, functions and classes."""
    found = set()
    for node in ast.walk(tree):
        if isinstance(node, ast.Name) and not isinstance(node.ctx, ast.Load):
            found.add(node.id)
        if isinstance(node, ast.arg):
            found.add(node.arg)
        if isinstance(node, ast.ExceptHandler) and node.name:
            found.add(node.name)
    return found


def defined_names(tree):
    """The names that a file binds at module level itself."""
    found = []
    for node in tree.body:
        if isinstance(node, (ast.FunctionDef, ast.ClassDef)):
            found.append(node.name)
        if isinstance(node, ast.Assign):
            found += [target.id for target in node.targets]
    return found


class Language(unittest.TestCase):

    @classmethod
    def setUpClass(cls):
        cls.texts = sources()
        cls.trees = {name: ast.parse(text) for name, text in cls.texts.items()}

    def each(self, *kinds):
        for name, tree in self.trees.items():
            for node in ast.walk(tree):
                if isinstance(node, kinds):
                    yield name, node

    def test_files(self):
        self.assertLessEqual(len(self.texts), 100)
        for name, text in self.texts.items():
            with self.subTest(file=name):
                self.assertRegex(name, r"^[a-z_][a-z0-9_]*\.py$")
                self.assertLessEqual(len(text.splitlines()), 399)
                self.assertLessEqual(max(map(len, text.splitlines())), 120)
                self.assertRegex(text, r"\A[ -~\n]*\Z")

    def test_sizes_of_functions(self):
        for _, node in self.each(ast.FunctionDef):
            self.assertLessEqual(node.end_lineno - node.lineno + 1, 40)

    def test_nothing_barred(self):
        for _, node in self.each(*BARRED):
            self.fail(ast.dump(node))

    def test_constants(self):
        for _, node in self.each(ast.Constant):
            self.assertNotIsInstance(node.value, (float, complex))
            if isinstance(node.value, str):
                self.assertNotIn("%", node.value)

    def test_words(self):
        for name, text in self.texts.items():
            for word in ("open", "input", "register", "mro", "elements", "law", "type", "typing", "enum", "exec", "eval"):
                with self.subTest(file=name, word=word):
                    self.assertIsNone(re.search(r"\b" + word + r"\b", text))

    def test_module_level(self):
        for name, tree in self.trees.items():
            for node in tree.body:
                with self.subTest(file=name, line=node.lineno):
                    self.assertIsInstance(node, (ast.Expr, ast.ImportFrom, ast.FunctionDef, ast.ClassDef, ast.Assign))
            names = defined_names(tree) + [
                alias.name for node in tree.body if isinstance(node, ast.ImportFrom) for alias in node.names
            ]
            self.assertEqual(len(names), len(set(names)), name)

    def test_imports(self):
        for _, node in self.each(ast.ImportFrom):
            self.assertEqual(0, node.level)
            names = {alias.name for alias in node.names}
            self.assertTrue(all(alias.asname is None for alias in node.names))
            if node.module in LIBRARY:
                self.assertLessEqual(names, LIBRARY[node.module])
            else:
                package, file = node.module.split(".")
                self.assertEqual("rimcords", package)
                self.assertLessEqual(names, set(defined_names(self.trees[file + ".py"])))

    def test_imports_are_used(self):
        for name, tree in self.trees.items():
            used = {node.id for node in ast.walk(tree) if isinstance(node, ast.Name)}
            for node in tree.body:
                if isinstance(node, ast.ImportFrom):
                    self.assertLessEqual({alias.name for alias in node.names}, used, name)

    def test_no_circles(self):
        after = {}
        for name, tree in self.trees.items():
            modules = [node.module for node in tree.body if isinstance(node, ast.ImportFrom)]
            after[name] = [module.split(".")[1] + ".py" for module in modules if module not in LIBRARY]
        while after:
            free = [name for name, others in after.items() if not any(other in after for other in others)]
            self.assertTrue(free, after)
            after = {name: others for name, others in after.items() if name not in free}

    def test_names(self):
        for name, tree in self.trees.items():
            with self.subTest(file=name):
                functions = {node.name for node in ast.walk(tree) if isinstance(node, ast.FunctionDef)}
                names = bound_names(tree) | set(defined_names(tree))
                self.assertEqual(set(), names & set(dir(builtins)))
                taken = {node.name for node in tree.body if isinstance(node, ast.ClassDef)}
                taken |= {alias.name for node in tree.body if isinstance(node, ast.ImportFrom) for alias in node.names}
                self.assertEqual(set(), bound_names(tree) & taken)
                for word in functions | bound_names(tree):
                    if word not in METHODS:
                        self.assertRegex(word, r"^(_|_?[A-Za-z][A-Za-z0-9_]*)$")

    def test_builtins(self):
        for name, tree in self.trees.items():
            for node in ast.walk(tree):
                if isinstance(node, ast.Name) and node.id in dir(builtins):
                    with self.subTest(file=name, line=node.lineno):
                        self.assertIn(node.id, BUILTINS | ({"super"} if name == "errors.py" else set()))

    def test_decorators_and_annotations(self):
        for _, node in self.each(ast.FunctionDef, ast.ClassDef):
            self.assertLessEqual({ast.unparse(item) for item in node.decorator_list}, {"property"})
            if isinstance(node, ast.FunctionDef):
                self.assertIsNone(node.returns)
        for _, node in self.each(ast.arg):
            self.assertIsNone(node.annotation)

    def test_is(self):
        for _, node in self.each(ast.Compare):
            for sign, other in zip(node.ops, node.comparators):
                if isinstance(sign, (ast.Is, ast.IsNot)):
                    self.assertIn(ast.unparse(other), ("None", "True", "False"))

    def test_errors_that_are_raised_and_caught(self):
        own = set(defined_names(self.trees["errors.py"]))
        for _, node in self.each(ast.Raise):
            self.assertIsInstance(node.exc, ast.Call)
            self.assertIn(node.exc.func.id, own)
        for _, node in self.each(ast.ExceptHandler):
            self.assertIn(ast.unparse(node.type), own)

    def test_generators(self):
        functions = [node.name for _, node in self.each(ast.FunctionDef)]
        for name, node in self.each(ast.FunctionDef):
            if any(isinstance(item, ast.Yield) for item in ast.walk(node)):
                self.assertEqual(1, functions.count(node.name))
                for tree in self.trees.values():
                    self.assertNotIn(node.name, bound_names(tree))

    def test_exits(self):
        for _, node in self.each(ast.FunctionDef):
            if node.name == "__exit__":
                self.assertEqual(["self", "kind", "value", "trace"], [item.arg for item in node.args.args])
                for item in node.body:
                    self.assertIsInstance(item, ast.Assign)
                    self.assertRegex(ast.unparse(item), r"^(kept = self\.kept|self\.[a-z]+ = kept\.[a-z]+)$")

    def test_nested_functions_and_lambdas(self):
        for _, node in self.each(ast.FunctionDef):
            inner = [item for item in ast.walk(node) if isinstance(item, (ast.FunctionDef, ast.Lambda)) and item != node]
            self.assertEqual([], inner)

    def test_stars_in_calls(self):
        for _, node in self.each(ast.Starred):
            self.assertIsInstance(node.value, (ast.Name, ast.Attribute))
