"""The rules of LANGUAGE.md that can be read off the code of the package."""

import ast
import builtins
import os
import unittest

FOLDER = os.path.join(os.path.dirname(os.path.dirname(os.path.abspath(__file__))), "needforth")
LIBRARY = {"math": {"gcd", "lcm", "isqrt", "comb", "perm", "factorial"},
           "heapq": {"heappush", "heappop", "heapify", "heapreplace", "heappushpop"},
           "itertools": {"product", "combinations", "permutations", "chain", "accumulate", "pairwise", "islice",
                         "zip_longest"},
           "collections": {"defaultdict"}}
BUILTINS = set(
    "len range enumerate zip min max sum abs sorted reversed int str bool bytes list tuple dict set frozenset isinstance"
    " ord repr any all divmod pow Exception ValueError TypeError KeyError IndexError LookupError ZeroDivisionError"
    " ArithmeticError OverflowError RuntimeError NotImplementedError AttributeError StopIteration NotImplemented map"
    " iter next property staticmethod classmethod super".split())
METHODS = set(
    "append clear copy count endswith extend find get index insert isalnum isalpha isdigit islower isspace isupper"
    " items join keys ljust lower lstrip partition pop remove replace reverse rfind rjust rpartition rsplit rstrip"
    " setdefault split splitlines startswith strip update upper values zfill bit_length add discard sort".split())
SPECIAL = set(
    "__init__ __eq__ __repr__ __str__ __len__ __enter__ __exit__ __call__ __iter__ __mul__ __and__ __or__ __invert__"
    " __bool__ __contains__ __getitem__".split())
BARRED = set(
    "register mro elements open input law version_info attrgetter breakpoint builtins compile copyright credits delattr"
    " dir eval exec exit gc globals help id importlib license locals methodcaller os quit type vars sys typing enum"
    " format".split())
# attributes that may have the names of methods of builtin values
FREE = set("count index title find get join lower upper split strip copy add".split())
STATEMENTS = (ast.Assign, ast.AugAssign, ast.If, ast.While, ast.For, ast.Return, ast.Break, ast.Continue, ast.Pass,
              ast.Raise, ast.Assert, ast.Delete, ast.Nonlocal, ast.With, ast.Try, ast.Expr, ast.FunctionDef, ast.ClassDef,
              ast.ImportFrom)


def sources():
    found = {}
    for name in sorted(os.listdir(FOLDER)):
        if name != "__pycache__":
            with open(os.path.join(FOLDER, name), encoding="utf-8") as file:
                found[name] = file.read()
    return found


class Language(unittest.TestCase):
    def setUp(self):
        self.texts = sources()
        self.trees = {name: ast.parse(text) for name, text in self.texts.items()}

    def nodes(self, *kinds):
        for name, tree in self.trees.items():
            for node in ast.walk(tree):
                if isinstance(node, kinds):
                    yield name + ":" + str(getattr(node, "lineno", 0)), node

    def test_files(self):
        for name in self.texts:
            self.assertRegex(name, r"^[a-z_]+\.py$")
        self.assertIn("__init__.py", self.texts)

    def test_characters_and_sizes(self):
        for name, text in self.texts.items():
            self.assertLessEqual(text.count("\n"), 399, name)
            self.assertTrue(all(sign == "\n" or " " <= sign <= "~" for sign in text), name)
            for line in text.split("\n"):
                self.assertLessEqual(len(line), 120, line)
                self.assertEqual(line.rstrip(), line)
        for where, node in self.nodes(ast.FunctionDef):
            self.assertLessEqual(node.end_lineno - node.lineno + 1, 40, where)

    def test_imports(self):
        defined = {name[:-3]: {node.name for node in tree.body if isinstance(node, (ast.FunctionDef, ast.ClassDef))}
                   | {node.targets[0].id for node in tree.body if isinstance(node, ast.Assign)}
                   for name, tree in self.trees.items()}
        ahead = {name[:-3]: [] for name in self.trees}
        for where, node in self.nodes(ast.Import, ast.ImportFrom):
            self.assertIsInstance(node, ast.ImportFrom, where)
            self.assertEqual(node.level, 0, where)
            for alias in node.names:
                self.assertIsNone(alias.asname, where)
                if node.module in LIBRARY:
                    self.assertIn(alias.name, LIBRARY[node.module], where)
                else:
                    package, module = node.module.split(".")
                    self.assertEqual(package, "needforth", where)
                    self.assertIn(alias.name, defined[module], where)
                    ahead[where.split(".")[0]].append(module)
        while ahead:
            free = [name for name in ahead if not set(ahead[name]) & set(ahead)]
            self.assertTrue(free, "imports that go round: " + str(sorted(ahead)))
            for name in free:
                del ahead[name]

    def test_module_level(self):
        for name, tree in self.trees.items():
            self.assertIsInstance(tree.body[0], ast.Expr, name)
            for node in tree.body[1:]:
                self.assertIsInstance(node, (ast.ImportFrom, ast.FunctionDef, ast.ClassDef, ast.Assign), name)
            bound = [node.name for node in tree.body if isinstance(node, (ast.FunctionDef, ast.ClassDef))]
            bound += [node.targets[0].id for node in tree.body if isinstance(node, ast.Assign)]
            bound += [alias.name for node in tree.body if isinstance(node, ast.ImportFrom) for alias in node.names]
            self.assertEqual(len(bound), len(set(bound)), name)

    def test_statements(self):
        for where, node in self.nodes(ast.stmt):
            self.assertIsInstance(node, STATEMENTS, where)
        for where, node in self.nodes(ast.FunctionDef, ast.ClassDef):
            for made in node.decorator_list:
                words = ast.unparse(made)
                self.assertTrue(words in ("property", "staticmethod", "classmethod") or words.endswith(".setter"), where)

    def test_expressions(self):
        for where, node in self.nodes(ast.BinOp, ast.AugAssign):
            self.assertNotIsInstance(node.op, (ast.Div, ast.MatMult), where)
            if isinstance(node.op, ast.Pow):
                self.assertIsInstance(node.right, ast.Constant, where)
        for where, node in self.nodes(ast.Constant):
            self.assertNotIsInstance(node.value, (float, complex), where)
            if isinstance(node.value, str):
                self.assertNotIn("%", node.value, where)
        for where, node in self.nodes(ast.GeneratorExp, ast.Await, ast.AsyncFor, ast.Set, ast.SetComp):
            self.fail(where)
        for where, node in self.nodes(ast.Compare):
            for sign, side in zip(node.ops, node.comparators):
                if isinstance(sign, (ast.Is, ast.IsNot)):
                    self.assertIn(ast.unparse(side), ("None", "True", "False"), where)

    def test_what_iterated_objects_rule_out(self):
        for where, node in self.nodes(ast.ImportFrom):
            if node.module == "itertools":
                self.assertFalse({alias.name for alias in node.names} & {"product", "combinations", "permutations"}, where)
        for where, node in self.nodes(ast.Call):
            if isinstance(node.func, ast.Name) and node.func.id == "reversed":
                self.assertRegex(ast.unparse(node.args[0]), r"^(list|tuple|sorted|range)\(", where)
            if isinstance(node.func, ast.Attribute):
                self.assertNotEqual(node.func.attr, "sort", where)
            if isinstance(node.func, ast.Name) and node.func.id in LIBRARY["math"]:
                self.assertFalse([one for one in node.args if isinstance(one, ast.Starred)], where)

    def test_names_of_files_bind_no_locals(self):
        for name, tree in self.trees.items():
            fixed = {alias.name for node in tree.body if isinstance(node, ast.ImportFrom) for alias in node.names}
            fixed |= {node.name for node in tree.body if isinstance(node, ast.ClassDef)}
            for made in ast.walk(tree):
                if isinstance(made, ast.FunctionDef):
                    local = {node.arg for node in ast.walk(made.args) if isinstance(node, ast.arg)}
                    local |= {node.id for node in ast.walk(made)
                              if isinstance(node, ast.Name) and isinstance(node.ctx, ast.Store)}
                    self.assertFalse(local & fixed, name + ":" + made.name)

    def test_names(self):
        own = {node.name for where, node in self.nodes(ast.FunctionDef, ast.ClassDef)}
        for name, tree in self.trees.items():
            bound = {node.id for node in ast.walk(tree) if isinstance(node, ast.Name) and isinstance(node.ctx, ast.Store)}
            bound |= {node.arg for node in ast.walk(tree) if isinstance(node, ast.arg)}
            bound |= {node.name for node in ast.walk(tree) if isinstance(node, (ast.FunctionDef, ast.ClassDef))}
            bound |= {alias.name for node in ast.walk(tree) if isinstance(node, ast.ImportFrom) for alias in node.names}
            self.assertFalse(bound & BARRED, name)
            self.assertFalse({word for word in bound if word in vars(builtins)}, name)
            self.assertFalse({word for word in bound if word.startswith("__")} - SPECIAL, name)
            for node in ast.walk(tree):
                if isinstance(node, ast.Name) and node.id not in bound:
                    self.assertIn(node.id, BUILTINS, name)
        for where, node in self.nodes(ast.Call):
            if isinstance(node.func, ast.Attribute) and node.func.attr not in SPECIAL:
                self.assertIn(node.func.attr, METHODS | own, where)

    def test_attributes(self):
        stored = {node.attr for where, node in self.nodes(ast.Attribute) if isinstance(node.ctx, ast.Store)}
        taken = {name for kind in (str, int, list, tuple, dict, set, bytes) for name in dir(kind)} | BARRED | {"args"}
        self.assertFalse(stored & taken - FREE)
        for where, node in self.nodes(ast.ClassDef):
            methods = [made.name for made in node.body if isinstance(made, ast.FunctionDef)
                       and not any(ast.unparse(word).endswith(".setter") for word in made.decorator_list)]
            self.assertEqual(len(methods), len(set(methods)), where)
            self.assertFalse(stored & set(methods), where)


if __name__ == "__main__":
    unittest.main()
