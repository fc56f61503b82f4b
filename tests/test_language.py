"""Those rules of LANGUAGE.md that can be read off the package's files."""

import ast
import builtins
import pathlib
import unittest

FOLDER = pathlib.Path(__file__).resolve().parent.parent / "lookspoil"
FILES = sorted(path for path in FOLDER.rglob("*") if "__pycache__" not in path.parts)
BUILTINS = (
    "len range enumerate zip min max sum abs sorted reversed int str bool bytes list tuple dict set isinstance ord "
    "repr any all divmod ValueError TypeError KeyError IndexError LookupError NotImplemented super").split()
METHODS = (
    "append clear copy count endswith extend find get index insert isalnum isalpha isdigit islower isspace isupper "
    "items join keys ljust lower lstrip partition pop remove replace reverse rfind rjust rpartition rsplit rstrip "
    "setdefault split splitlines startswith strip update upper values zfill bit_length").split()
NEVER = (
    ast.GeneratorExp, ast.Set, ast.Global, ast.Div, ast.AsyncFunctionDef, ast.JoinedStr, ast.Import,
    ast.ExceptHandler, ast.Yield, ast.YieldFrom, ast.NamedExpr, ast.Starred)
LIBRARY = {"heapq": ("heappop", "heappush"), "itertools": ("combinations",)}
ONCE = ("range", "zip", "enumerate", "reversed", "items", "keys", "values")
TAKERS = (
    "list", "tuple", "dict", "sorted", "sum", "any", "all", "enumerate", "zip", "min", "max", "reversed",
    "combinations")
AT_TOP = (ast.ImportFrom, ast.FunctionDef, ast.ClassDef, ast.Assign)


def trees():
    return [(path, ast.parse(path.read_text("utf-8"))) for path in FILES if path.suffix == ".py"]


def bound_names(function):
    """The parameters and variables of a function."""
    told = function.args
    names = [one.arg for one in told.args + told.posonlyargs + told.kwonlyargs]
    return names + [
        node.id for node in ast.walk(function) if isinstance(node, ast.Name) and isinstance(node.ctx, ast.Store)]


def with_those_above(tree):
    """Each node of a file, with the one in which it stands."""
    return [(node, above) for above in ast.walk(tree) for node in ast.iter_child_nodes(above)]


def called(node):
    """The name of what is called."""
    return node.func.attr if isinstance(node.func, ast.Attribute) else getattr(node.func, "id", "")


def is_table_of_functions(node):
    """Whether the node is a dict of functions."""
    return isinstance(node, ast.Dict) and all(isinstance(value, ast.Name) for value in node.values)


class Language(unittest.TestCase):
    def test_files_and_characters(self):
        self.assertTrue(FILES)
        for path in FILES:
            self.assertEqual((path.suffix, path.stem), (".py", path.stem.lower()))
            data = path.read_bytes()
            self.assertEqual([byte for byte in data if byte != 10 and not 32 <= byte <= 126], [], path)

    def test_sizes(self):
        for path, tree in trees():
            lines = path.read_text("utf-8").split("\n")
            self.assertLessEqual(len(lines), 399, path)
            self.assertLessEqual(max(len(line) for line in lines), 120, path)
            for node in ast.walk(tree):
                if isinstance(node, ast.FunctionDef):
                    self.assertLessEqual(node.end_lineno - node.lineno + 1, 40, node.name)

    def test_module_level(self):
        for path, tree in trees():
            self.assertIsInstance(tree.body[0].value, ast.Constant, path)
            above = set()
            for node in tree.body[1:]:
                self.assertIsInstance(node, AT_TOP, path)
                above |= {node.name} if isinstance(node, ast.FunctionDef) else set()
                if isinstance(node, ast.Assign) and is_table_of_functions(node.value):
                    self.assertLessEqual({value.id for value in node.value.values}, above, path)
                elif isinstance(node, ast.Assign):
                    ast.literal_eval(node.value)

    def test_imports_name_the_file_that_defines_and_never_go_round(self):
        leads = {}
        for path, tree in trees():
            imports = []
            for node in [node for node in ast.walk(tree) if isinstance(node, ast.ImportFrom)]:
                if node.module in LIBRARY:
                    for name in node.names:
                        self.assertIsNone(name.asname)
                        self.assertIn(name.name, LIBRARY[node.module], path)
                else:
                    imports.append(node)
            leads[path.stem] = [node.module.split(".")[-1] for node in imports]
            for node in imports:
                self.assertEqual((node.module.split(".")[0], node.level), ("lookspoil", 0), path)
                source = ast.parse((FOLDER / (node.module.split(".")[1] + ".py")).read_text("utf-8"))
                here = [one.name for one in source.body if isinstance(one, (ast.FunctionDef, ast.ClassDef))]
                here += [one.targets[0].id for one in source.body if isinstance(one, ast.Assign)]
                for name in node.names:
                    self.assertIsNone(name.asname)
                    self.assertIn(name.name, here, path)
        while leads:
            done = [name for name in leads if not any(other in leads for other in leads[name])]
            self.assertTrue(done, leads)
            leads = {name: leads[name] for name in leads if name not in done}

    def test_statements_and_expressions(self):
        for path, tree in trees():
            for node in ast.walk(tree):
                self.assertNotIsInstance(node, NEVER, (path, getattr(node, "lineno", 0)))
                if isinstance(node, ast.Constant):
                    self.assertNotIsInstance(node.value, float)
                if isinstance(node, ast.Compare) and isinstance(node.ops[0], (ast.Is, ast.IsNot)):
                    self.assertIsInstance(node.comparators[0], ast.Constant)
                if isinstance(node, (ast.FunctionDef, ast.ClassDef)):
                    self.assertEqual(node.decorator_list, [])

    def test_what_is_iterated_at_once(self):
        for path, tree in trees():
            for node, above in with_those_above(tree):
                if not isinstance(node, ast.Call) or called(node) not in ONCE:
                    continue
                loops = isinstance(above, (ast.For, ast.comprehension)) and above.iter == node
                takes = isinstance(above, ast.Call) and called(above) in TAKERS
                asks = called(node) == "range" and isinstance(above, ast.Compare)
                self.assertTrue(loops or takes or asks, (path, node.lineno))

    def test_sets_are_sorted_measured_or_kept_under_a_name(self):
        for path, tree in trees():
            for node, above in with_those_above(tree):
                if isinstance(node, ast.SetComp) or (isinstance(node, ast.Call) and called(node) == "set"):
                    takes = isinstance(above, ast.Call) and called(above) in ("sorted", "len")
                    self.assertTrue(takes or isinstance(above, (ast.Assign, ast.Compare)), (path, node.lineno))

    def test_a_finally_puts_names_back_alone(self):
        for path, tree in trees():
            for node in [node for node in ast.walk(tree) if isinstance(node, ast.Try)]:
                self.assertTrue(node.finalbody)
                for line in node.finalbody:
                    self.assertIsInstance(line, ast.Assign, path)
                    self.assertIsInstance(line.value, ast.Name, path)

    def test_names(self):
        own = {
            node.name for _, tree in trees() for made in ast.walk(tree) if isinstance(made, ast.ClassDef)
            for node in made.body if isinstance(node, ast.FunctionDef)}
        for path, tree in trees():
            imported = {name.name for node in ast.walk(tree) if isinstance(node, ast.ImportFrom) for name in node.names}
            known = {node.name for node in tree.body if isinstance(node, (ast.FunctionDef, ast.ClassDef))}
            self.assertEqual([name for name in known if hasattr(builtins, name)], [])
            for node in ast.walk(tree):
                if isinstance(node, ast.Name) and hasattr(builtins, node.id):
                    self.assertIn(node.id, BUILTINS, path)
                    self.assertIsInstance(node.ctx, ast.Load, path)
                if isinstance(node, ast.FunctionDef):
                    names = bound_names(node)
                    self.assertEqual([name for name in names if name in imported | known], [], path)
                    self.assertEqual([name for name in names if hasattr(builtins, name)], [], path)
                if isinstance(node, ast.Call) and isinstance(node.func, ast.Attribute):
                    self.assertIn(node.func.attr, own.union(METHODS), path)


if __name__ == "__main__":
    unittest.main()
