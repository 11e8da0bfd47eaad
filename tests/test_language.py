"""What the files of the package may look like, as far as a short look at them can tell."""

import ast
import unittest
from pathlib import Path

PACKAGE = Path(__file__).resolve().parent.parent / "evenrules"
LIBRARY = {"math": {"gcd", "lcm", "isqrt", "comb", "perm", "factorial"}}
BUILTINS = {
    "len", "range", "enumerate", "zip", "min", "max", "sum", "abs", "sorted", "reversed", "int", "str", "bool", "list",
    "tuple", "dict", "set", "isinstance", "ord", "repr", "any", "all", "divmod", "ValueError", "TypeError", "KeyError",
    "IndexError", "NotImplemented", "staticmethod", "classmethod", "property", "super", "iter", "map",
}
METHODS = {
    "append", "clear", "copy", "count", "endswith", "extend", "find", "get", "index", "insert", "isalnum", "isalpha",
    "isdigit", "islower", "isspace", "isupper", "items", "join", "keys", "ljust", "lower", "lstrip", "partition", "pop",
    "remove", "replace", "reverse", "rfind", "rjust", "rpartition", "rsplit", "rstrip", "setdefault", "split",
    "splitlines", "startswith", "strip", "update", "upper", "values", "zfill", "bit_length", "isascii",
}
WHERE = {
    "errors": ["FairError", "BadRule", "NoHalves", "BadNumber", "BadTest", "BadKey", "NoKey", "Taken", "Overlap",
               "Stuck", "BadOther", "BadDeeds", "BadPages", "BadText", "BadCommand", "BadName", "NoName", "Nothing",
               "TooMany"],
    "checks": ["is_integer", "is_key", "is_within", "is_name", "need_key", "need_name"],
    "papers": ["Verdict"],
    "straight": ["Test"],
    "settled": ["settled", "Point", "Sum", "Split", "Odd", "top_of", "Top", "Answer"],
    "look_settled": ["shows_none"],
    "rules": ["Rule", "WeightRule", "TurnRule", "TryRule"],
    "within": ["within", "Within", "tests_within", "Parted", "same_trees"],
}
IN_CLASSES = {
    "straight.Test": ["__len__", "amount", "__call__", "__add__", "__mul__", "__rmul__", "__neg__", "__invert__",
                      "tight", "__eq__", "__str__", "read"],
    "rules.WeightRule": ["__call__", "greatest", "least", "read"],
    "rules.TurnRule": ["__init__", "turns", "__eq__", "__str__"],
    "rules.TryRule": ["__init__", "turns", "__eq__", "__str__"],
}
BARRED = (ast.GeneratorExp, ast.Global, ast.AsyncFunctionDef, ast.Await, ast.Import)


def trees():
    """The name, the text and the tree of each file of the package."""
    for path in sorted(PACKAGE.glob("*.py")):
        text = path.read_text(encoding="utf-8")
        yield path.stem, text, ast.parse(text)


def nodes(kind):
    for name, _, tree in trees():
        for node in ast.walk(tree):
            if isinstance(node, kind):
                yield name, node


class LanguageTest(unittest.TestCase):

    def test_files(self):
        for path in PACKAGE.iterdir():
            self.assertTrue(path.suffix == ".py" or path.name == "__pycache__", path)
        for name, text, _ in trees():
            lines = text.split("\n")
            self.assertLessEqual(len(lines) - 1, 399, name)
            self.assertLessEqual(max(len(line) for line in lines), 120, name)
            self.assertTrue(all(mark == "\n" or " " <= mark <= "~" for mark in text), name)

    def test_functions_are_short(self):
        for name, node in nodes(ast.FunctionDef):
            self.assertLessEqual(node.end_lineno - node.lineno + 1, 40, (name, node.name))

    def test_imports(self):
        for name, node in nodes(ast.ImportFrom):
            names = {alias.name for alias in node.names}
            self.assertEqual((node.level, [alias.asname for alias in node.names]), (0, [None] * len(names)))
            if node.module in LIBRARY:
                self.assertLessEqual(names, LIBRARY[node.module])
            else:
                self.assertTrue(node.module.startswith("evenrules."), (name, node.module))
                self.assertLessEqual(names, set(defined_in(node.module.split(".")[1])), (name, node.module))

    def test_no_file_imports_itself_in_a_ring(self):
        imports = {name: [] for name, _, _ in trees()}
        for name, node in nodes(ast.ImportFrom):
            if node.module.startswith("evenrules."):
                imports[name].append(node.module.split(".")[1])
        while imports:
            free = [name for name, others in imports.items() if not any(other in imports for other in others)]
            self.assertTrue(free, imports)
            imports = {name: others for name, others in imports.items() if name not in free}

    def test_the_interface_is_defined_where_it_is_listed(self):
        for module, names in WHERE.items():
            self.assertLessEqual(set(names), set(defined_in(module)), module)

    def test_methods_stand_in_their_classes(self):
        for name, methods in IN_CLASSES.items():
            module, owner = name.split(".")
            for own, node in nodes(ast.ClassDef):
                if (own, node.name) == (module, owner):
                    found = [item.name for item in node.body if isinstance(item, ast.FunctionDef)]
                    self.assertLessEqual(set(methods), set(found), name)

    def test_statements_and_expressions(self):
        self.assertEqual([(name, node.lineno) for name, node in nodes(BARRED)], [])
        for name, node in nodes((ast.BinOp, ast.AugAssign)):
            self.assertNotIsInstance(node.op, (ast.Div, ast.MatMult), name)
        for name, node in nodes(ast.Constant):
            self.assertNotIsInstance(node.value, (float, complex, bytes), name)
            if isinstance(node.value, str):
                self.assertNotIn("%", node.value, name)

    def test_names(self):
        builtin = set(dir(__builtins__) if not isinstance(__builtins__, dict) else __builtins__)
        for name, node in nodes((ast.Name, ast.arg)):
            word = node.id if isinstance(node, ast.Name) else node.arg
            if isinstance(node, ast.Name) and isinstance(node.ctx, ast.Load):
                self.assertTrue(word not in builtin or word in BUILTINS, (name, word))
            else:
                self.assertNotIn(word, builtin, name)

    def test_methods_of_values(self):
        own = {node.name for _, node in nodes(ast.FunctionDef)}
        for name, node in nodes(ast.Call):
            if isinstance(node.func, ast.Attribute):
                self.assertTrue(node.func.attr in METHODS or node.func.attr in own, (name, node.func.attr))

    def test_any_and_its_kin_take_lists(self):
        for name, node in nodes(ast.Call):
            if isinstance(node.func, ast.Name) and node.func.id in ("sorted", "min", "max"):
                plain = [argument for argument in node.args if is_plain(argument)]
                self.assertTrue(plain, (name, node.lineno))

    def test_is_stands_beside_none_alone(self):
        for name, node in nodes(ast.Compare):
            for sign, right in zip(node.ops, node.comparators):
                if isinstance(sign, (ast.Is, ast.IsNot)):
                    self.assertTrue(isinstance(right, ast.Constant) and right.value in (None, True, False), name)


def is_plain(node):
    """Whether an expression is plainly a number, or a list of such."""
    if isinstance(node, ast.ListComp):
        return is_plain(node.elt)
    if isinstance(node, ast.Call):
        return isinstance(node.func, ast.Name) and node.func.id in ("int", "len", "str", "ord", "range")
    return isinstance(node, ast.Constant)


def defined_in(module):
    """The names that a file binds at module level, but for imports."""
    tree = ast.parse((PACKAGE / f"{module}.py").read_text(encoding="utf-8"))
    names = [node.name for node in tree.body if isinstance(node, (ast.FunctionDef, ast.ClassDef))]
    for node in tree.body:
        if isinstance(node, ast.Assign):
            names += [target.id for target in node.targets]
    return names


if __name__ == "__main__":
    unittest.main()
