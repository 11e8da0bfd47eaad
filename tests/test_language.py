"""What the files of the package may look like, as far as a short look at them can tell."""

import ast
import unittest
from pathlib import Path

PACKAGE = Path(__file__).resolve().parent.parent / "evenrules"
LIBRARY = {"math": {"gcd", "lcm", "isqrt", "comb", "perm", "factorial"}}
BUILTINS = {
    "len", "range", "enumerate", "zip", "min", "max", "sum", "abs", "sorted", "reversed", "int", "str", "bool", "list",
    "tuple", "dict", "set", "isinstance", "ord", "repr", "any", "all", "divmod", "ValueError", "TypeError", "KeyError",
    "IndexError", "NotImplemented", "staticmethod", "classmethod", "property", "super", "iter", "map",
}
METHODS = {
    "append", "clear", "copy", "count", "endswith", "extend", "find", "get", "index", "insert", "isalnum", "isalpha",
    "isdigit", "islower", "isspace", "isupper", "items", "join", "keys", "ljust", "lower", "lstrip", "partition", "pop",
    "remove", "replace", "reverse", "rfind", "rjust", "rpartition", "rsplit", "rstrip", "setdefault", "split",
    "splitlines", "startswith", "strip", "update", "upper", "values", "zfill", "bit_length", "isascii",
}
WHERE = {
    "errors": ["FairError", "BadRule", "NoHalves", "BadNumber", "BadTest", "BadKey", "NoKey", "Taken", "Overlap",
               "Stuck", "BadOther", "BadDeeds", "BadPages", "BadText", "BadCommand", "BadName", "NoName", "Nothing",
               "TooMany"],
    "checks": ["is_integer", "is_key", "is_within", "is_name", "need_key", "need_name"],
    "papers": ["Verdict"],
    "straight": ["Test"],
    "settled": ["settled", "Point", "Sum", "Split", "Odd", "top_of", "Top", "Answer"],
    "look_settled": ["shows_none"],
    "rules": ["Rule", "WeightRule", "TurnRule", "TryRule"],
    "within": ["within", "Within", "tests_within", "Parted", "same_trees"],
    "look_within": ["shows_within"],
    "heights": ["least_keys", "heights", "greatest_height", "least_height", "halves_shape", "tall_shape", "keys_of",
                "height_of", "is_fair"],
    "counts": ["counts", "shapes", "shape_at", "place_of"],
    "reading": ["Reading"],
    "parts": ["Parts"],
    "trees": ["Tree"],
    "cases": ["Case", "cases", "tests_of", "numbers_break"],
    "judged": ["judge", "From", "Right", "Wrong", "breaks"],
    "falls": ["fall_of"],
    "met": ["met", "Met", "Never", "tests_met", "shows_met"],
    "look_judged": ["shows_judged"],
    "fills": ["FillRule", "judge_fill", "Fits", "Spills", "right_sizes", "spill_of", "Spill", "pages_for", "levels_for"],
    "look_fills": ["shows_fill"],
    "rows": ["Row"],
    "shelves": ["Shelf"],
    "texts": ["tree_text", "shelf_text"],
    "reader": ["read_tree", "read_shelf"],
    "desk": ["Desk"],
}
IN_CLASSES = {
    "straight.Test": ["__len__", "amount", "__call__", "__add__", "__mul__", "__rmul__", "__neg__", "__invert__",
                      "tight", "__eq__", "__str__", "read"],
    "rules.WeightRule": ["__call__", "greatest", "least", "read"],
    "rules.TurnRule": ["__init__", "turns", "__eq__", "__str__"],
    "rules.TryRule": ["__init__", "turns", "__eq__", "__str__"],
    "rows.Row": ["__init__", "__len__", "__iter__", "total", "is_young", "keeps", "page_of", "put", "take", "__eq__"],
    "shelves.Shelf": ["__init__", "built", "put", "__setitem__", "drop", "__getitem__", "get", "__contains__", "__len__",
                      "__bool__", "__iter__", "stretch", "pages", "levels", "keeps", "page_of", "__ior__", "twin",
                      "trial", "tried", "__eq__"],
    "desk.Desk": ["__init__", "__call__", "say", "run", "names", "__len__"],
    "fills.FillRule": ["__init__", "least_fill", "fits", "__eq__", "__str__", "read"],
    "reading.Reading": ["__len__", "__bool__", "__contains__", "__iter__", "falling", "__getitem__", "get", "least",
                        "greatest", "below", "above", "place", "key_at", "between", "depth", "height", "layout",
                        "__eq__", "__str__"],
    "parts.Parts": ["__floordiv__", "__mod__", "cut", "__add__", "__or__", "__and__", "__sub__", "__le__", "__lt__"],
    "trees.Tree": ["__init__", "halves", "put", "__setitem__", "drop", "__ior__", "rule", "exchange", "unfair", "trial",
                   "tried", "twin"],
}
CHANGES = {"append", "extend", "insert", "pop", "remove", "clear", "update", "setdefault", "reverse", "add", "discard"}
FILES = []
BARRED = (ast.GeneratorExp, ast.Global, ast.AsyncFunctionDef, ast.Await, ast.Import)


def trees():
    """The name, the text and the tree of each file of the package."""
    if not FILES:
        for path in sorted(PACKAGE.glob("*.py")):
            text = path.read_text(encoding="utf-8")
            FILES.append((path.stem, text, ast.parse(text)))
    return FILES


def nodes(kind):
    for name, _, tree in trees():
        for node in ast.walk(tree):
            if isinstance(node, kind):
                yield name, node


class LanguageTest(unittest.TestCase):

    def test_files(self):
        for path in PACKAGE.iterdir():
            self.assertTrue(path.suffix == ".py" or path.name == "__pycache__", path)
        for name, text, _ in trees():
            lines = text.split("\n")
            self.assertLessEqual(len(lines) - 1, 399, name)
            self.assertLessEqual(max(len(line) for line in lines), 120, name)
            self.assertTrue(all(mark == "\n" or " " <= mark <= "~" for mark in text), name)

    def test_functions_are_short(self):
        for name, node in nodes(ast.FunctionDef):
            self.assertLessEqual(node.end_lineno - node.lineno + 1, 40, (name, node.name))

    def test_imports(self):
        for name, node in nodes(ast.ImportFrom):
            names = {alias.name for alias in node.names}
            self.assertEqual((node.level, [alias.asname for alias in node.names]), (0, [None] * len(names)))
            if node.module in LIBRARY:
                self.assertLessEqual(names, LIBRARY[node.module])
            else:
                self.assertTrue(node.module.startswith("evenrules."), (name, node.module))
                self.assertLessEqual(names, set(defined_in(node.module.split(".")[1])), (name, node.module))

    def test_no_file_imports_itself_in_a_ring(self):
        imports = {name: [] for name, _, _ in trees()}
        for name, node in nodes(ast.ImportFrom):
            if node.module.startswith("evenrules."):
                imports[name].append(node.module.split(".")[1])
        while imports:
            free = [name for name, others in imports.items() if not any(other in imports for other in others)]
            self.assertTrue(free, imports)
            imports = {name: others for name, others in imports.items() if name not in free}

    def test_the_interface_is_defined_where_it_is_listed(self):
        for module, names in WHERE.items():
            self.assertLessEqual(set(names), set(defined_in(module)), module)

    def test_methods_stand_in_their_classes(self):
        for name, methods in IN_CLASSES.items():
            module, owner = name.split(".")
            for own, node in nodes(ast.ClassDef):
                if (own, node.name) == (module, owner):
                    found = [item.name for item in node.body if isinstance(item, ast.FunctionDef)]
                    self.assertLessEqual(set(methods), set(found), name)

    def test_statements_and_expressions(self):
        self.assertEqual([(name, node.lineno) for name, node in nodes(BARRED)], [])
        for name, node in nodes((ast.BinOp, ast.AugAssign)):
            self.assertNotIsInstance(node.op, (ast.Div, ast.MatMult), name)
        for name, node in nodes(ast.Constant):
            self.assertNotIsInstance(node.value, (float, complex, bytes), name)
            if isinstance(node.value, str):
                self.assertNotIn("%", node.value, name)

    def test_names(self):
        builtin = set(dir(__builtins__) if not isinstance(__builtins__, dict) else __builtins__)
        for name, node in nodes((ast.Name, ast.arg)):
            word = node.id if isinstance(node, ast.Name) else node.arg
            if isinstance(node, ast.Name) and isinstance(node.ctx, ast.Load):
                self.assertTrue(word not in builtin or word in BUILTINS, (name, word))
            else:
                self.assertNotIn(word, builtin, name)

    def test_local_names_are_no_imports_and_classes(self):
        for name, _, tree in trees():
            bound = {alias.name for node in ast.walk(tree) if isinstance(node, ast.ImportFrom) for alias in node.names}
            bound |= {node.name for node in tree.body if isinstance(node, ast.ClassDef)}
            for node in tree.body:
                for inner in ast.walk(node):
                    if isinstance(inner, ast.arg):
                        self.assertNotIn(inner.arg, bound, name)
                    if isinstance(inner, ast.Name) and isinstance(inner.ctx, ast.Store):
                        self.assertNotIn(inner.id, bound, name)

    def test_module_level_values_are_plain(self):
        for name, _, tree in trees():
            functions = set()
            for node in tree.body:
                if isinstance(node, ast.FunctionDef):
                    functions.add(node.name)
                if isinstance(node, ast.Assign):
                    self.assertEqual(len(node.targets), 1)
                    for inner in ast.walk(node.value):
                        self.assertNotIsInstance(inner, (ast.Call, ast.Attribute, ast.ListComp), name)
                        # The values of a table may be functions that stand above it.
                        self.assertTrue(not isinstance(inner, ast.Name) or inner.id in functions, name)

    def test_methods_of_values(self):
        own = {node.name for _, node in nodes(ast.FunctionDef)}
        for name, node in nodes(ast.Call):
            if isinstance(node.func, ast.Attribute):
                self.assertTrue(node.func.attr in METHODS or node.func.attr in own, (name, node.func.attr))

    def test_what_is_added_to_a_list_is_another_list(self):
        # A bare name could stand for a part of the very list that grows.
        for name, node in nodes(ast.Call):
            if called(node) in ("extend", "update") and isinstance(node.func, ast.Attribute):
                self.assertIsInstance(node.args[0], (ast.List, ast.ListComp, ast.Call), (name, node.lineno))

    def test_any_and_its_kin_take_lists(self):
        for name, node in nodes(ast.Call):
            if isinstance(node.func, ast.Name) and node.func.id in ("sorted", "min", "max"):
                plain = [argument for argument in node.args if is_plain(argument)]
                self.assertTrue(plain, (name, node.lineno))

    def test_is_stands_beside_none_alone(self):
        for name, node in nodes(ast.Compare):
            for sign, right in zip(node.ops, node.comparators):
                if isinstance(sign, (ast.Is, ast.IsNot)):
                    plain = isinstance(right, ast.Constant) and right.value in (None, True, False)
                    own = isinstance(node.left, ast.Name) and node.left.id == "self"
                    self.assertTrue(plain or own, name)

    def test_generators(self):
        names = [node.name for _, node in nodes(ast.FunctionDef)]
        generators = {node.name for _, node in nodes(ast.FunctionDef) if is_generator(node)}
        self.assertLessEqual({"cases", "heights", "shapes", "falling", "between", "right_sizes", "stretch"}, generators)
        for name in generators:
            self.assertEqual(names.count(name), 1, name)
            self.assertNotIn(name, METHODS)
        wanted = set()
        for _, node in nodes((ast.For, ast.comprehension)):
            wanted.add(node.iter)
        for name, node in nodes(ast.Call):
            if called(node) in generators:
                self.assertIn(node, wanted, (name, node.lineno))
                self.assertTrue(all(isinstance(argument, (ast.Name, ast.Attribute)) for argument in node.args), name)

    def test_attributes(self):
        methods = {node.name: node for _, node in nodes(ast.FunctionDef)}
        stored, read = set(), set()
        for name, node in nodes(ast.Attribute):
            if isinstance(node.ctx, ast.Store):
                stored.add(node.attr)
            else:
                read.add(node.attr)
        for word in stored:
            owner = methods.get(word)
            self.assertTrue(owner is None or not (is_generator(owner) or owner.decorator_list), word)
            self.assertNotIn(word, ("keys", "items", "values", "pop", "update", "append", "sort", "format", "args"))
        values = {"MOST", "setter"}
        self.assertLessEqual(read - stored - set(methods) - METHODS - values, set())

    def test_what_operators_run_changes_nothing(self):
        bodies = {}
        for _, node in nodes((ast.FunctionDef, ast.ClassDef)):
            bodies.setdefault(node.name, []).append(node)
        waiting = [node for _, node in nodes(ast.FunctionDef) if is_quiet(node)]
        seen = []
        while waiting:
            node = waiting.pop()
            if node in seen:
                continue
            seen.append(node)
            if isinstance(node, ast.ClassDef):
                waiting += [item for item in node.body if getattr(item, "name", "") == "__init__"]
                continue
            self.check_quiet(node)
            for inner in ast.walk(node):
                if isinstance(inner, ast.Call) and called(inner) not in METHODS:
                    waiting += bodies.get(called(inner), [])
        self.assertGreater(len(seen), 60)

    def check_quiet(self, function):
        made = {}
        for node in ast.walk(function):
            if isinstance(node, ast.Assign) and isinstance(node.targets[0], ast.Name):
                made.setdefault(node.targets[0].id, []).append(node.value)
        own = {word for word, values in made.items() if all(is_made_here(value) for value in values)}
        for node in ast.walk(function):
            if isinstance(node, ast.Attribute) and isinstance(node.ctx, (ast.Store, ast.Del)):
                self.assertTrue(function.name == "__init__" and node.value.id == "self", (function.name, node.lineno))
            if isinstance(node, ast.Subscript) and isinstance(node.ctx, (ast.Store, ast.Del)):
                self.assertIn(node.value.id, own, (function.name, node.lineno))
            if isinstance(node, ast.Call) and isinstance(node.func, ast.Attribute) and node.func.attr in CHANGES:
                self.assertIn(node.func.value.id, own, (function.name, node.lineno))
            if isinstance(node, ast.AugAssign):
                self.assertTrue(isinstance(node.value, ast.Constant), (function.name, node.lineno))


def is_generator(function):
    """Whether a function yields."""
    return any(isinstance(node, (ast.Yield, ast.YieldFrom)) for node in ast.walk(function))


def called(call):
    """The name of what is called."""
    return call.func.attr if isinstance(call.func, ast.Attribute) else getattr(call.func, "id", None)


def is_quiet(function):
    """Whether a function is an operator, a property or another one that must change nothing."""
    if any(isinstance(node, ast.Name) and node.id == "property" for node in function.decorator_list):
        return True
    changing = ("__init__", "__setitem__", "__ior__", "__call__", "__enter__", "__exit__", "__iter__")
    return function.name.startswith("__") and function.name not in changing


def is_made_here(value):
    """Whether a value is a list or a dict that a function creates itself."""
    if isinstance(value, ast.Call):
        return called(value) in ("list", "dict", "sorted")
    if isinstance(value, ast.BinOp):
        return isinstance(value.op, ast.Mult) and isinstance(value.left, ast.List)
    return isinstance(value, (ast.List, ast.ListComp, ast.Dict))


def is_plain(node):
    """Whether an expression is plainly a number, or a list of such."""
    if isinstance(node, ast.ListComp):
        return is_plain(node.elt)
    if isinstance(node, ast.Call):
        return isinstance(node.func, ast.Name) and node.func.id in ("int", "len", "str", "ord", "range")
    return isinstance(node, ast.Constant)


def defined_in(module):
    """The names that a file binds at module level, but for imports."""
    tree = ast.parse((PACKAGE / f"{module}.py").read_text(encoding="utf-8"))
    names = [node.name for node in tree.body if isinstance(node, (ast.FunctionDef, ast.ClassDef))]
    for node in tree.body:
        if isinstance(node, ast.Assign):
            names += [target.id for target in node.targets]
    return names


if __name__ == "__main__":
    unittest.main()
