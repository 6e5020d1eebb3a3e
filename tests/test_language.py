"""The package keeps to a small subset of Python: sizes, signs, names, imports and what it is built from."""

import ast
import builtins
import pathlib
import unittest

PACKAGE = pathlib.Path(__file__).resolve().parent.parent / "rungonce"
FILES = sorted(PACKAGE.glob("*.py"))

# All that the package needs; the rules allow somewhat more.
STATEMENTS = (ast.FunctionDef, ast.ClassDef, ast.Return, ast.Assign, ast.AugAssign, ast.For, ast.While, ast.If,
              ast.Raise, ast.Expr, ast.Continue, ast.Break, ast.Pass, ast.ImportFrom, ast.Delete, ast.Try)
BARRED = (ast.Lambda, ast.GeneratorExp, ast.Yield, ast.YieldFrom, ast.Await, ast.Set, ast.SetComp, ast.NamedExpr,
          ast.Global, ast.Nonlocal, ast.AnnAssign, ast.Starred)
BUILTINS = """len range enumerate zip min max sum abs sorted reversed int str bool list tuple dict set isinstance ord
repr any all divmod super property ValueError""".split()
METHODS = """append clear copy count endswith extend find get index insert isalnum isalpha isdigit islower isspace
isupper items join keys ljust lower lstrip partition pop remove replace reverse rfind rjust rpartition rsplit rstrip
setdefault split splitlines startswith strip update upper values zfill bit_length __init__""".split()
LIBRARY = {"math": ("gcd", "lcm", "isqrt", "comb", "perm", "factorial"), "heapq": ("heappush", "heappop", "heapify")}
SPECIAL = ["__init__", "__eq__", "__len__", "__bool__"]
BARRED_NAMES = """register mro elements open input law version_info with_traceback add_note typing enum type
dataclass overload contextmanager abstractmethod namedtuple""".split()


def bound_names(tree):
    """Parameters, variables, functions and classes."""
    names = []
    for node in ast.walk(tree):
        if isinstance(node, (ast.FunctionDef, ast.ClassDef)):
            names.append(node.name)
        elif isinstance(node, ast.arg):
            names.append(node.arg)
        elif isinstance(node, ast.Name) and isinstance(node.ctx, ast.Store):
            names.append(node.id)
    return names


def imports_of(tree):
    return [(node.module, [alias.name for alias in node.names]) for node in tree.body
            if isinstance(node, ast.ImportFrom)]


class Language(unittest.TestCase):
    def each_tree(self):
        for path in FILES:
            yield path, ast.parse(path.read_text(encoding="ascii"))

    def test_files(self):
        self.assertLessEqual(len(FILES), 100)
        for path in PACKAGE.iterdir():
            if path.name != "__pycache__":
                self.assertRegex(path.name, r"^[a-z_]+\.py$")
        for path in FILES:
            text = path.read_text(encoding="ascii")
            lines = text.split("\n")
            self.assertLessEqual(len(lines), 399, path)
            self.assertTrue(all(len(line) <= 120 for line in lines), path)
            self.assertTrue(all(sign == "\n" or " " <= sign <= "~" for sign in text), path)

    def test_functions_are_small(self):
        for path, tree in self.each_tree():
            for node in ast.walk(tree):
                if isinstance(node, ast.FunctionDef):
                    self.assertLessEqual(node.end_lineno - node.lineno + 1, 40, (path, node.name))
                    self.assertFalse(node.args.vararg or node.args.kwarg or node.args.kwonlyargs or node.returns)

    def test_what_it_is_built_from(self):
        for path, tree in self.each_tree():
            for node in ast.walk(tree):
                if isinstance(node, ast.stmt):
                    self.assertIsInstance(node, STATEMENTS, (path, node.lineno))
                self.assertNotIsInstance(node, BARRED, path)
                if isinstance(node, ast.FunctionDef):
                    self.assertEqual([inner.name for inner in ast.walk(node)
                                      if isinstance(inner, ast.FunctionDef)], [node.name])
                    self.assertEqual(node.args.defaults, [], (path, node.name))
                if isinstance(node, (ast.Div, ast.Pow)):
                    self.fail((path, "a division or a power"))
                if isinstance(node, ast.Constant):
                    self.assertIsInstance(node.value, (int, str, type(None)), path)
                    self.assertNotIn("%", str(node.value))

    def test_module_level(self):
        for path, tree in self.each_tree():
            names = []
            for at, node in enumerate(tree.body):
                self.assertIsInstance(node, (ast.ImportFrom, ast.FunctionDef, ast.ClassDef, ast.Assign, ast.Expr))
                if isinstance(node, ast.Expr):
                    self.assertTrue(at == 0 and isinstance(node.value.value, str), path)
                elif isinstance(node, ast.Assign):
                    self.assertIsInstance(node.value, ast.Constant, path)
                    names += [target.id for target in node.targets]
                elif isinstance(node, ast.ImportFrom):
                    names += [alias.name for alias in node.names]
                else:
                    names.append(node.name)
            self.assertEqual(len(names), len(set(names)), path)

    def test_imports(self):
        trees = {"rungonce." + path.stem: tree for path, tree in self.each_tree()}
        reached = {}
        for name, tree in trees.items():
            for module, words in imports_of(tree):
                if module in LIBRARY:
                    self.assertTrue(set(words) <= set(LIBRARY[module]), name)
                    continue
                own = [node.name for node in trees[module].body if isinstance(node, (ast.FunctionDef, ast.ClassDef))]
                own += [node.targets[0].id for node in trees[module].body if isinstance(node, ast.Assign)]
                self.assertTrue(set(words) <= set(own), (name, module))
                reached.setdefault(name, []).append(module)
        while reached:
            last = [name for name in reached if not any(module in reached for module in reached[name])]
            self.assertTrue(last, "files that import from each other: " + ", ".join(reached))
            for name in last:
                del reached[name]

    def test_names_and_imports_are_used(self):
        for path, tree in self.each_tree():
            used = [node.id for node in ast.walk(tree) if isinstance(node, ast.Name)]
            for _, words in imports_of(tree):
                self.assertEqual([word for word in words if word not in used], [], path)

    def test_names(self):
        for path, tree in self.each_tree():
            taken = [word for _, words in imports_of(tree) for word in words]
            taken += [node.name for node in tree.body if isinstance(node, ast.ClassDef)]
            for name in bound_names(tree):
                self.assertNotIn(name, BARRED_NAMES, path)
                self.assertTrue(name in SPECIAL or not hasattr(builtins, name), (path, name))
                self.assertFalse(name.startswith("__") and name not in SPECIAL, (path, name))
            variables = [node.arg for node in ast.walk(tree) if isinstance(node, ast.arg)]
            variables += [node.id for node in ast.walk(tree)
                          if isinstance(node, ast.Name) and isinstance(node.ctx, ast.Store)]
            self.assertEqual([name for name in variables if name in taken], [], path)

    def test_builtins_and_methods(self):
        for path, tree in self.each_tree():
            for node in ast.walk(tree):
                if isinstance(node, ast.Name) and hasattr(builtins, node.id):
                    self.assertIn(node.id, BUILTINS, path)
                if isinstance(node, ast.Call) and isinstance(node.func, ast.Attribute):
                    self.assertIn(node.func.attr, METHODS, path)

    def test_decorators(self):
        for path, tree in self.each_tree():
            methods = [node for owner in tree.body if isinstance(owner, ast.ClassDef) for node in owner.body]
            for node in ast.walk(tree):
                if isinstance(node, (ast.FunctionDef, ast.ClassDef)) and node.decorator_list:
                    self.assertEqual([ast.unparse(name) for name in node.decorator_list], ["property"], path)
                    self.assertIn(node, methods)
                    changed = [inner for inner in ast.walk(node) if isinstance(inner, ast.Attribute)
                               and isinstance(inner.ctx, ast.Store)]
                    self.assertEqual(changed, [], (path, node.name))

    def test_what_is_tried_is_put_back_plainly(self):
        # There are no handlers, and what is done at last is to put attributes back, where a name is None or is not.
        for path, tree in self.each_tree():
            for node in ast.walk(tree):
                if isinstance(node, ast.Try):
                    self.assertEqual((node.handlers, node.orelse), ([], []), path)
                    for last in node.finalbody:
                        self.assertRegex(ast.unparse(last.test), r"^[a-z]+ is (not )?None$")
                        for statement in last.body:
                            self.assertRegex(ast.unparse(statement), r"^[a-z_., ]+ = [a-z_., ()]+$")

    def test_lists_are_not_sorted_in_place(self):
        # A class of the package compares, and has a length.
        for path, tree in self.each_tree():
            for node in ast.walk(tree):
                if isinstance(node, ast.Attribute):
                    self.assertNotEqual(node.attr, "sort", path)

    def test_sets_are_only_counted(self):
        for path, tree in self.each_tree():
            counted = [node.args[0] for node in ast.walk(tree) if isinstance(node, ast.Call)
                       and isinstance(node.func, ast.Name) and node.func.id == "len"]
            for node in ast.walk(tree):
                if isinstance(node, ast.Call) and isinstance(node.func, ast.Name) and node.func.id == "set":
                    self.assertIn(node, counted, path)

    def test_words(self):
        for path in FILES:
            text = path.read_text(encoding="ascii")
            for word in ("_wall", "_WallAttr", "\\x", "\t"):
                self.assertNotIn(word, text, path)


if __name__ == "__main__":
    unittest.main()
