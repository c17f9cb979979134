"""The rules for the code of the package that can be read off its syntax."""

import ast
import os
import unittest

import factpairs

FOLDER = os.path.dirname(factpairs.__file__)
ALLOWED_FROM = {"heapq": {"heappush", "heappop", "heapify", "heapreplace", "heappushpop"},
                "math": {"gcd", "lcm", "isqrt", "comb", "perm", "factorial"}}
BUILTINS = set("""len range enumerate zip min max sum abs sorted reversed int str bool list tuple dict set isinstance ord
repr any all divmod pow iter next map getattr hasattr setattr property staticmethod classmethod super Exception ValueError
TypeError KeyError IndexError LookupError ZeroDivisionError ArithmeticError OverflowError RuntimeError
NotImplementedError AttributeError StopIteration NotImplemented""".split())
DUNDERS = set("""__init__ __eq__ __repr__ __str__ __len__ __enter__ __exit__ __call__ __iter__ __lt__ __le__ __gt__ __ge__
__ne__ __or__ __and__ __invert__ __contains__ __getitem__ __bool__""".split())
BARRED_NAMES = {"register", "mro", "elements", "open", "input", "law", "version_info", "with_traceback", "add_note"}
BARRED_WORDS = ("dataclass", "overload", "contextmanager", "(type)", "Meta", "metaclass=", "_wall")
BARRED_NODES = (ast.Global, ast.AsyncFunctionDef, ast.Await, ast.Div, ast.Import, ast.YieldFrom)


def files():
    """(name, text, tree) of each file of the package."""
    found = []
    for name in sorted(os.listdir(FOLDER)):
        if name != "__pycache__":
            with open(os.path.join(FOLDER, name), encoding="utf-8") as file:
                text = file.read()
            found.append((name, text, ast.parse(text)))
    return found


def nodes(*kinds):
    """(name of the file, node) of each node of these kinds."""
    return [(name, node) for name, _, tree in files() for node in ast.walk(tree) if isinstance(node, kinds)]


class LanguageTest(unittest.TestCase):

    def test_files(self):
        for name, text, _ in files():
            self.assertRegex(name, r"\A([a-z][a-z0-9_]*|__init__|__main__)\.py\Z")
            self.assertLessEqual(len(text.splitlines()), 399, name)
            self.assertRegex(text, r"\A[ -~\n]+\n\Z", name)
            for number, line in enumerate(text.split("\n"), 1):
                self.assertLessEqual(len(line), 120, (name, number))
                self.assertEqual(line, line.rstrip(), (name, number))
            for word in BARRED_WORDS:
                self.assertNotIn(word, text, name)

    def test_sizes_of_functions(self):
        for name, node in nodes(ast.FunctionDef):
            self.assertLessEqual(node.end_lineno - node.lineno + 1, 40, (name, node.name))

    def test_imports(self):
        for name, node in nodes(ast.ImportFrom):
            self.assertEqual(node.level, 0, name)
            if node.module not in ALLOWED_FROM:
                self.assertRegex(node.module, r"\Afactpairs\.[a-z]+\Z", name)
                with open(os.path.join(FOLDER, node.module.split(".")[1] + ".py"), encoding="utf-8") as file:
                    body = ast.parse(file.read()).body
                own = {part.name for part in body if isinstance(part, (ast.FunctionDef, ast.ClassDef))}
                own.update(part.targets[0].id for part in body if isinstance(part, ast.Assign))
                self.assertLessEqual({alias.name for alias in node.names}, own, name)

    def test_imports_are_used(self):
        for name, _, tree in files():
            used = {node.id for node in ast.walk(tree) if isinstance(node, ast.Name)}
            for node in ast.walk(tree):
                if isinstance(node, ast.ImportFrom):
                    self.assertLessEqual({alias.name for alias in node.names}, used, name)

    def test_imports_do_not_go_round(self):
        reached = {name: {node.module.split(".")[1] + ".py" for node in ast.walk(tree)
                          if isinstance(node, ast.ImportFrom) and node.module not in ALLOWED_FROM}
                   for name, _, tree in files()}
        while reached:
            free = [name for name in reached if not reached[name] & set(reached)]
            self.assertTrue(free, reached)
            for name in free:
                del reached[name]

    def test_no_other_statements_and_values(self):
        self.assertEqual([(name, node) for name, node in nodes(*BARRED_NODES)], [])
        for name, node in nodes(ast.Constant):
            self.assertNotIsInstance(node.value, (float, complex), (name, node.lineno))
            if isinstance(node.value, str):
                self.assertNotIn("%", node.value, (name, node.lineno))

    def test_names(self):
        builtins = set(vars(__builtins__) if not isinstance(__builtins__, dict) else __builtins__)
        for name, node in nodes(ast.Name, ast.arg, ast.FunctionDef, ast.ClassDef, ast.Attribute):
            word = getattr(node, "id", None) or getattr(node, "arg", None) or getattr(node, "name", None) or node.attr
            where = (name, node.lineno, word)
            self.assertNotIn(word, BARRED_NAMES, where)
            if word.startswith("__"):
                self.assertIn(word, DUNDERS, where)
            if word in builtins and not isinstance(node, ast.Attribute) and word not in DUNDERS:
                self.assertIn(word, BUILTINS, where)
                self.assertTrue(isinstance(node, ast.Name) and isinstance(node.ctx, ast.Load), where)

    def test_orders_of_objects_leave_sorting_to_strings(self):
        # Books and pairings have an order of their own, so L5 lets only plain strings and numbers be sorted.
        for name, node in nodes(ast.Call):
            if isinstance(node.func, ast.Name) and node.func.id in ("sorted", "min", "max"):
                self.assertIsInstance(node.args[0], ast.ListComp, (name, node.lineno))
                self.assertIn(node.args[0].elt.func.id, ("str", "len", "int"), (name, node.lineno))
            self.assertFalse(isinstance(node.func, ast.Attribute) and node.func.attr == "sort", (name, node.lineno))

    def test_quantors_take_lists(self):
        self.assertEqual(nodes(ast.GeneratorExp), [])

    def test_names_of_imports_and_classes_mean_nothing_else(self):
        for name, _, tree in files():
            bound = [alias.name for node in ast.walk(tree) if isinstance(node, ast.ImportFrom) for alias in node.names]
            bound.extend(node.name for node in tree.body if isinstance(node, (ast.ClassDef, ast.FunctionDef)))
            self.assertEqual(len(set(bound)), len(bound), name)
            local = {node.arg for node in ast.walk(tree) if isinstance(node, ast.arg)}
            local.update(node.id for node in ast.walk(tree) if isinstance(node, ast.Name) and not isinstance(node.ctx, ast.Load))
            self.assertEqual(local & set(bound), set(), name)

    def test_methods_are_no_attributes(self):
        assigned = {node.attr for _, node in nodes(ast.Attribute) if isinstance(node.ctx, ast.Store)}
        for name, node in nodes(ast.ClassDef):
            methods = {part.name for part in node.body if isinstance(part, ast.FunctionDef)}
            self.assertEqual(methods & assigned, set(), (name, node.name))

    def test_classes_that_are_indexed_are_not_gone_over(self):
        for name, node in nodes(ast.ClassDef):
            methods = [part.name for part in node.body if isinstance(part, ast.FunctionDef)]
            self.assertEqual(len(set(methods)), len(methods), (name, node.name))
            if "__getitem__" in methods:
                self.assertIn("__iter__", methods, (name, node.name))


if __name__ == "__main__":
    unittest.main()
