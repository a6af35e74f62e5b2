"""The form of the package's code: the rules of its language that a look at each file can see."""

import ast
import builtins
import pathlib
import re
import unittest

import drawntold.errors

FOLDER = pathlib.Path(drawntold.__file__).parent
FILES = sorted(path for path in FOLDER.iterdir() if path.name != "__pycache__")
LIBRARY = {
    "heapq": {"heappush", "heappop", "heapify", "heapreplace", "heappushpop"},
    "math": {"gcd", "lcm", "isqrt", "comb", "perm", "factorial"},
    "itertools": {"product", "combinations", "permutations"},
}
BUILTINS = set(
    "len range enumerate zip min max sum abs sorted reversed int str bool list tuple dict set "
    "isinstance ord repr any all divmod type map iter next ValueError KeyError IndexError "
    "LookupError ZeroDivisionError property".split()
)
METHODS = set(
    "append clear copy count endswith extend find get index insert isalnum isalpha isdigit "
    "islower isspace isupper items join keys ljust lower lstrip partition pop remove replace "
    "reverse rfind rjust rpartition rsplit rstrip setdefault split splitlines startswith strip "
    "update upper values zfill bit_length add discard __init__".split()
)
BARRED_WORDS = re.compile(
    r"\b(typing|enum|Enum|Generic|Protocol|ABC|namedtuple|NamedTuple|TypedDict|register|mro|"
    r"elements|open|input|law|eval|exec|globals|locals|vars|dir|id|os|sys|_wall\w*)\b"
)
BARRED_NODES = (
    ast.AsyncFunctionDef, ast.AsyncFor, ast.AsyncWith, ast.Await, ast.Global, ast.Div, ast.MatMult,
)


def own_names(tree):
    """All names that functions, classes, parameters and targets of a file bind."""
    for node in ast.walk(tree):
        if isinstance(node, (ast.FunctionDef, ast.ClassDef)):
            yield node.name
        elif isinstance(node, ast.arg):
            yield node.arg
        elif isinstance(node, ast.Name) and isinstance(node.ctx, ast.Store):
            yield node.id


def code_alone(text, tree):
    """The lines of a file without comments and docstrings."""
    lines = [re.sub(r"\s*#.*", "", line) for line in text.splitlines()]
    for node in ast.walk(tree):
        if isinstance(node, (ast.Module, ast.ClassDef, ast.FunctionDef)) and ast.get_docstring(node):
            first = node.body[0]
            lines[first.lineno - 1:first.end_lineno] = [""] * (first.end_lineno - first.lineno + 1)
    return "\n".join(lines)


class FormTests(unittest.TestCase):
    def setUp(self):
        self.texts = {path.name: path.read_bytes().decode("ascii") for path in FILES}
        self.trees = {name: ast.parse(text) for name, text in self.texts.items()}

    def nodes(self, *kinds):
        for name, tree in self.trees.items():
            for node in ast.walk(tree):
                if isinstance(node, kinds):
                    yield f"{name}:{getattr(node, 'lineno', 0)}", node

    def test_files(self):
        for name, text in self.texts.items():
            self.assertRegex(name, r"^[a-z][a-z_0-9]*\.py$|^__init__\.py$|^__main__\.py$")
            self.assertRegex(text, r"\A[\n -~]*\Z", name)
            self.assertLess(len(text.splitlines()), 400, name)
            for line in text.splitlines():
                self.assertLessEqual(len(line), 120, name)

    def test_functions_have_forty_lines_at_most(self):
        for where, node in self.nodes(ast.FunctionDef, ast.Lambda):
            self.assertLessEqual(node.end_lineno - node.lineno + 1, 40, where)

    def test_imports(self):
        for where, node in self.nodes(ast.Import, ast.ImportFrom):
            self.assertIsInstance(node, ast.ImportFrom, where)
            names = {alias.name for alias in node.names}
            self.assertTrue(all(alias.asname is None for alias in node.names), where)
            if node.module in LIBRARY:
                self.assertLessEqual(names, LIBRARY[node.module], where)
                continue
            package, module = node.module.split(".")
            self.assertEqual(package, "drawntold", where)
            self.assertLessEqual(names, set(own_names(self.trees[module + ".py"])), where)

    def test_module_level(self):
        for name, tree in self.trees.items():
            for node in tree.body:
                docstring = isinstance(node, ast.Expr) and isinstance(node.value, ast.Constant)
                plain = isinstance(node, ast.Assign) and len(node.targets) == 1
                kinds = (ast.ImportFrom, ast.FunctionDef, ast.ClassDef)
                self.assertTrue(docstring or plain or isinstance(node, kinds), f"{name}:{node.lineno}")
                if plain:
                    self.assertIsInstance(node.targets[0], ast.Name)
                    calls = [part for part in ast.walk(node.value) if isinstance(part, ast.Call)]
                    self.assertEqual(calls, [], f"{name}:{node.lineno}")

    def test_no_barred_nodes_and_words(self):
        for where, node in self.nodes(*BARRED_NODES):
            self.fail(where)
        for where, node in self.nodes(ast.Constant):
            self.assertNotIsInstance(node.value, (float, complex, bytes), where)
            if isinstance(node.value, str):
                self.assertNotIn("%", node.value, where)
        for name, text in self.texts.items():
            found = BARRED_WORDS.search(code_alone(text, self.trees[name]))
            self.assertIsNone(found, f"{name}: {found}")

    def test_names(self):
        for name, tree in self.trees.items():
            for bound in own_names(tree):
                self.assertRegex(bound, r"^_?[A-Za-z][A-Za-z0-9_]*$|^_$|^__init__$", name)
                self.assertNotIn(bound, set(dir(builtins)) - {"__init__"}, name)
            imported = {
                alias.name for node in tree.body if isinstance(node, ast.ImportFrom)
                for alias in node.names
            }
            self.assertFalse(imported & set(own_names(tree)), name)
            for node in ast.walk(tree):
                if isinstance(node, ast.Name) and hasattr(builtins, node.id):
                    self.assertIn(node.id, BUILTINS, f"{name}:{node.lineno}")

    def test_methods_of_builtin_values(self):
        own = {node.name for _, node in self.nodes(ast.FunctionDef)}
        for where, node in self.nodes(ast.Call):
            if isinstance(node.func, ast.Attribute):
                self.assertIn(node.func.attr, METHODS | own, where)

    def test_decorators_stand_over_properties_alone(self):
        for where, node in self.nodes(ast.FunctionDef, ast.ClassDef):
            for decorator in node.decorator_list:
                self.assertIsInstance(decorator, ast.Name, where)
                self.assertEqual(decorator.id, "property", where)

    def test_files_do_not_import_from_each_other(self):
        imports = {name: set() for name in self.trees}
        for name, tree in self.trees.items():
            for node in tree.body:
                if isinstance(node, ast.ImportFrom) and node.module not in LIBRARY:
                    imports[name].add(node.module.split(".")[1] + ".py")
        while imports:
            last = [name for name, wanted in imports.items() if not wanted & set(imports)]
            self.assertTrue(last, imports)
            for name in last:
                del imports[name]

    def test_is_stands_beside_none_true_false(self):
        for where, node in self.nodes(ast.Compare):
            if any(isinstance(sign, (ast.Is, ast.IsNot)) for sign in node.ops):
                self.assertIsInstance(node.comparators[0], ast.Constant, where)

    def test_exponents_are_literals(self):
        for where, node in self.nodes(ast.BinOp):
            if isinstance(node.op, ast.Pow):
                self.assertIsInstance(node.right, ast.Constant, where)
                self.assertLessEqual(node.right.value, 64, where)

    def test_behind_stars_stand_names(self):
        for where, node in self.nodes(ast.Call):
            for argument in node.args:
                if isinstance(argument, ast.Starred):
                    self.assertIsInstance(argument.value, (ast.Name, ast.Attribute), where)

    def test_generators_stand_in_calls_beside_names(self):
        inside = {
            id(argument) for _, node in self.nodes(ast.Call) for argument in node.args
            if isinstance(node.func, ast.Name) or node.func.attr == "join"
        }
        for where, node in self.nodes(ast.GeneratorExp):
            self.assertIn(id(node), inside, where)

    def test_errors_are_made_where_they_are_raised(self):
        for where, node in self.nodes(ast.Raise):
            self.assertIsInstance(node.exc, ast.Call, where)
            self.assertTrue(hasattr(drawntold.errors, node.exc.func.id), where)


if __name__ == "__main__":
    unittest.main()
