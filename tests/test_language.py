"""Holds the files of the package against those rules of the language that are easy to see."""

import ast
import builtins
import os
import unittest

FOLDER = os.path.join(os.path.dirname(os.path.dirname(os.path.abspath(__file__))), "placewords")

BUILTINS = set(
    "len range enumerate zip min max sum abs sorted reversed int str bool list tuple dict set isinstance "
    "ord repr any all divmod ValueError".split()
)
LIBRARY = {"math": {"comb", "gcd"}}
METHODS = set(
    "append clear copy count endswith extend find get index insert isalnum isalpha isdigit islower isspace "
    "isupper items join keys ljust lower lstrip partition pop remove replace reverse rfind rjust rpartition "
    "rsplit rstrip setdefault split splitlines startswith strip update upper values zfill bit_length".split()
)
REFUSED_NODES = (
    ast.AsyncFunctionDef, ast.Await, ast.Global, ast.GeneratorExp, ast.AnnAssign,
    ast.Set, ast.SetComp, ast.Yield, ast.YieldFrom, ast.NamedExpr, ast.With, ast.Try, ast.Delete,
)
LAZY = {"range", "zip", "enumerate", "reversed"}
TAKES_LAZY = {"list", "tuple", "dict", "sorted", "sum", "any", "all", "enumerate", "zip", "min", "max"}


def modules():
    for name in sorted(os.listdir(FOLDER)):
        if name != "__pycache__":
            with open(os.path.join(FOLDER, name), encoding="utf-8") as file:
                text = file.read()
            yield name, text, ast.parse(text)


def bound_names(tree):
    """All names of parameters, local variables, functions and classes, with their lines."""
    for node in ast.walk(tree):
        if isinstance(node, ast.arg):
            yield node.arg, node.lineno
        elif isinstance(node, ast.Name) and isinstance(node.ctx, ast.Store):
            yield node.id, node.lineno
        elif isinstance(node, (ast.FunctionDef, ast.ClassDef)):
            yield node.name, node.lineno


def imported_names(tree):
    for node in tree.body:
        if isinstance(node, ast.ImportFrom):
            for alias in node.names:
                yield node.module, alias.name, alias.asname


class LanguageTest(unittest.TestCase):
    def test_files_are_plain_and_short(self):
        for name, text, _ in modules():
            with self.subTest(name):
                self.assertRegex(name, r"^[a-z_0-9]+\.py$")
                self.assertTrue(all(c == "\n" or " " <= c <= "~" for c in text))
                lines = text.splitlines()
                self.assertLessEqual(len(lines), 399)
                self.assertLessEqual(max(map(len, lines)), 120)

    def test_functions_are_short_and_have_no_decorators(self):
        for name, _, tree in modules():
            for node in ast.walk(tree):
                if isinstance(node, (ast.FunctionDef, ast.ClassDef)):
                    self.assertEqual(node.decorator_list, [], name)
                if isinstance(node, ast.FunctionDef):
                    self.assertLessEqual(node.end_lineno - node.lineno + 1, 40, (name, node.name))
                    self.assertIsNone(node.returns)
                    self.assertTrue(all(arg.annotation is None for arg in node.args.args))

    def test_imports_name_the_file_that_defines_the_name(self):
        defined = {
            "placewords." + name[:-3]: {part for part, _ in bound_names(tree)} for name, _, tree in modules()
        }
        for name, _, tree in modules():
            for module, part, other in imported_names(tree):
                self.assertIsNone(other)
                if module in LIBRARY:
                    self.assertIn(part, LIBRARY[module], name)
                else:
                    self.assertIn(part, defined[module], name)
            for node in ast.walk(tree):
                self.assertNotIsInstance(node, ast.Import)
                if isinstance(node, ast.ImportFrom):
                    self.assertIn(node, tree.body)

    def test_no_two_files_import_from_each_other(self):
        imports = {
            "placewords." + name[:-3]: {module for module, _, _ in imported_names(tree)}
            for name, _, tree in modules()
        }
        done = set()
        while True:
            ready = {name for name in imports if imports[name] <= done | set(LIBRARY)} - done
            if not ready:
                break
            done |= ready
        self.assertEqual(done, set(imports))

    def test_names_do_not_hide_others(self):
        for name, _, tree in modules():
            taken = {part for _, part, _ in imported_names(tree)}
            classes = [node.name for node in ast.walk(tree) if isinstance(node, ast.ClassDef)]
            for bound, line in bound_names(tree):
                self.assertNotIn(bound, taken, (name, line))
                if bound not in classes and bound != "_" and not bound.startswith("__"):
                    self.assertFalse(hasattr(builtins, bound), (name, line, bound))

    def test_only_the_allowed_nodes_and_builtins(self):
        for name, _, tree in modules():
            for node in ast.walk(tree):
                where = (name, getattr(node, "lineno", 0))
                self.assertNotIsInstance(node, REFUSED_NODES, where)
                if isinstance(node, ast.Constant):
                    self.assertNotIsInstance(node.value, (float, bytes), where)
                    self.assertFalse(isinstance(node.value, str) and "%" in node.value, where)
                if isinstance(node, ast.BinOp):
                    self.assertNotIsInstance(node.op, (ast.Div, ast.Pow), where)
                if isinstance(node, ast.Name) and node.id != "_" and hasattr(builtins, node.id):
                    self.assertIn(node.id, BUILTINS | {"super"}, where)
                if isinstance(node, ast.Compare):
                    for op, other in zip(node.ops, node.comparators):
                        if isinstance(op, (ast.Is, ast.IsNot)):
                            self.assertIsInstance(other, ast.Constant, where)

    def test_only_the_allowed_methods(self):
        for name, _, tree in modules():
            own = {node.name for _, _, other in modules() for node in ast.walk(other)
                   if isinstance(node, ast.FunctionDef)}
            for node in ast.walk(tree):
                if isinstance(node, ast.Call) and isinstance(node.func, ast.Attribute):
                    self.assertIn(node.func.attr, METHODS | own, (name, node.lineno))

    def test_what_is_made_to_be_iterated_is_iterated_at_once(self):
        for name, _, tree in modules():
            good = set()
            for node in ast.walk(tree):
                if isinstance(node, (ast.For, ast.comprehension)):
                    good.add(node.iter)
                if isinstance(node, ast.Call) and isinstance(node.func, ast.Name):
                    if node.func.id in TAKES_LAZY or node.func.id == "reversed":
                        good.update(node.args[:1])
                    if node.func.id == "len":
                        good.update(node.args[:1])
            for node in ast.walk(tree):
                if isinstance(node, ast.Call):
                    lazy = isinstance(node.func, ast.Name) and node.func.id in LAZY
                    views = isinstance(node.func, ast.Attribute) and node.func.attr in ("items", "keys", "values")
                    if lazy or views:
                        self.assertIn(node, good, (name, node.lineno))

    def test_loops_do_not_change_what_they_go_over(self):
        changing = {"append", "extend", "insert", "pop", "remove", "clear", "update", "setdefault", "reverse"}
        for name, _, tree in modules():
            for loop in ast.walk(tree):
                if not isinstance(loop, ast.For):
                    continue
                over = {part.id for part in ast.walk(loop.iter) if isinstance(part, ast.Name)}
                if isinstance(loop.iter, ast.Subscript) or isinstance(loop.iter, ast.Call) and \
                        isinstance(loop.iter.func, ast.Name) and loop.iter.func.id == "range":
                    continue
                for node in [inner for row in loop.body for inner in ast.walk(row)]:
                    changed = None
                    if isinstance(node, ast.Call) and isinstance(node.func, ast.Attribute):
                        if node.func.attr in changing and isinstance(node.func.value, ast.Name):
                            changed = node.func.value.id
                    if isinstance(node, ast.Subscript) and isinstance(node.ctx, ast.Store):
                        if isinstance(node.value, ast.Name):
                            changed = node.value.id
                    self.assertNotIn(changed, over, (name, node.lineno if changed else 0))

    def test_no_two_lambdas_stand_on_one_line(self):
        for name, _, tree in modules():
            lines = [node.lineno for node in ast.walk(tree) if isinstance(node, ast.Lambda)]
            self.assertEqual(len(lines), len(set(lines)), name)

    def test_no_name_is_a_method_and_an_attribute_of_one_class(self):
        for name, _, tree in modules():
            for node in ast.walk(tree):
                if isinstance(node, ast.ClassDef):
                    methods = {part.name for part in node.body if isinstance(part, ast.FunctionDef)}
                    stored = {part.attr for part in ast.walk(node)
                              if isinstance(part, ast.Attribute) and isinstance(part.ctx, ast.Store)}
                    self.assertEqual(methods & stored, set(), name)

    def test_modules_have_only_plain_values(self):
        for name, _, tree in modules():
            for index, node in enumerate(tree.body):
                allowed = (ast.ImportFrom, ast.FunctionDef, ast.ClassDef, ast.Assign)
                docstring = index == 0 and isinstance(node, ast.Expr)
                self.assertTrue(docstring or isinstance(node, allowed), (name, node.lineno))
                if isinstance(node, ast.Assign):
                    ast.literal_eval(node.value)
                    self.assertIsInstance(node.targets[0], ast.Name)


if __name__ == "__main__":
    unittest.main()
