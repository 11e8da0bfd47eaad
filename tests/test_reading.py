"""Reading: every question that can be asked of a tree, on trees of none, one and many keys."""

import random
import unittest

import playing
from evenrules.errors import BadKey, BadNumber, NoKey, Nothing
from evenrules.reading import Reading
from evenrules.rules import TryRule, TurnRule
from evenrules.trees import Tree
from helping import any_values, assert_raises, deep_tuple, run_examples

EXAMPLES = """
>>> from evenrules.rules import Rule, TurnRule
>>> from evenrules.trees import Tree
>>> rule = TurnRule((3, 1), turn=(2, 1), turn_plus=-1)
>>> tree = Tree(rule, [(1, "a"), (2, "b"), (3, "c"), (4, "d")])
>>> [str(tree), len(tree), 3 in tree, True in tree, list(tree), list(tree.falling()), tree[2], tree.get(9, "-"), tree.layout]
['(1) 2 (3 (4))', 4, True, False, [1, 2, 3, 4], [4, 3, 2, 1], 'b', '-', (((), 1, ()), 2, ((), 3, ((), 4, ())))]
>>> [tree.least(), tree.greatest(), tree.below(1), tree.above(1), tree.place(3), tree.place(99), tree.key_at(0), tree.depth(4), tree.height, list(tree.between(2, 4))]
[1, 4, None, 2, 2, 4, 1, 2, 3, [(2, 'b'), (3, 'c')]]
>>> tree[9]
raises NoKey(9)
>>> tree.key_at(4)
raises BadNumber(4)
"""
RULE = TurnRule((3, 1), turn=(2, 1), turn_plus=-1)
GREAT = 10 ** 30 - 1


def some_trees():
    """Trees of none, one and many keys, each with what it holds."""
    random.seed(1)
    rows = [[], [5], [-GREAT], [GREAT, -GREAT], list(range(9)), random.sample(range(-50, 50), 33),
            [GREAT - 3 * at for at in range(20)]]
    for keys in rows:
        pairs = [(key, f"value {key}") for key in keys]
        for rule in (RULE, TryRule((6, 1), 6), TurnRule((3, 1), turn=(8, 1), turn_plus=6)):
            yield Tree(rule, pairs), dict(pairs)
        yield Tree.halves(RULE, pairs), dict(pairs)


def is_key(value):
    return value.__class__ is int and abs(value) <= GREAT


def asked_keys(keys):
    """Keys that are there, between them and beyond both ends."""
    near = {key + step for key in keys for step in (-1, 0, 1)} | {0, GREAT, -GREAT, 7}
    return [key for key in near if is_key(key)]


class AskedTest(unittest.TestCase):

    def test_examples(self):
        run_examples(self, EXAMPLES)

    def test_the_methods_stand_in_the_class(self):
        for name in ("__len__", "__bool__", "__contains__", "__iter__", "falling", "__getitem__", "get", "least",
                     "greatest", "below", "above", "place", "key_at", "between", "depth", "height", "layout", "__eq__",
                     "__str__"):
            self.assertIn(name, vars(Reading))

    def test_how_many_and_which_keys(self):
        for tree, values in some_trees():
            keys = sorted(values)
            self.assertEqual((len(tree), bool(tree)), (len(keys), len(keys) > 0))
            self.assertIs(bool(tree), len(keys) > 0)
            self.assertEqual((list(tree), list(tree.falling()), [*tree]), (keys, keys[::-1], keys))
            falling = tree.falling()
            self.assertEqual(next(falling, None), keys[-1] if keys else None)

    def test_keys_and_values(self):
        for tree, values in some_trees():
            for key in asked_keys(values):
                self.assertIs(key in tree, key in values)
                self.assertEqual((tree.get(key), tree.get(key, 7)), (values.get(key), values.get(key, 7)))
                if key in values:
                    self.assertIs(tree[key], tree.get(key))
                    self.assertEqual(tree[key], values[key])
                    self.assertEqual(tree.depth(key), playing.depth(tree.layout, key))
                else:
                    assert_raises(self, NoKey(key), tree.__getitem__, key)
                    assert_raises(self, NoKey(key), tree.depth, key)

    def test_neighbours_and_places(self):
        for tree, values in some_trees():
            keys = sorted(values)
            for key in asked_keys(values):
                self.assertEqual(tree.place(key), len([other for other in keys if other < key]))
                self.assertEqual(tree.below(key), max([other for other in keys if other < key], default=None))
                self.assertEqual(tree.above(key), min([other for other in keys if other > key], default=None))
            for at, key in enumerate(keys):
                self.assertEqual(tree.key_at(at), key)
            for at in (-1, len(keys), len(keys) + 5, -len(keys), GREAT):
                if not 0 <= at < len(keys):
                    assert_raises(self, BadNumber(at), tree.key_at, at)
            if keys:
                self.assertEqual((tree.least(), tree.greatest()), (keys[0], keys[-1]))
            else:
                assert_raises(self, Nothing(), tree.least)
                assert_raises(self, Nothing(), tree.greatest)

    def test_between(self):
        for tree, values in some_trees():
            keys = sorted(values)
            asked = asked_keys(keys[::4])
            for low in asked:
                for high in asked:
                    wanted = [(key, values[key]) for key in keys if low <= key < high]
                    self.assertEqual(list(tree.between(low, high)), wanted)
        self.assertEqual(next(tree.between(high=GREAT, low=-GREAT)).__class__, tuple)

    def test_layout_height_and_text(self):
        for tree, values in some_trees():
            layout = tree.layout
            self.assertEqual(playing.keys_of_layout(layout), sorted(values))
            self.assertEqual((tree.height, str(tree)), (playing.height(layout), playing.text(layout)))
        self.assertEqual((Tree(RULE).layout, Tree(RULE).height, str(Tree(RULE))), ((), 0, "-"))
        self.assertEqual(str(Tree(RULE, [(-3, 0)])), "-3")
        self.assertEqual(str(Tree(RULE, [(-3, 0), (-4, 0)])), "(-4) -3")

    def test_high_trees(self):
        # A rule that turns the wrong way makes a high tree of keys that ascend and fall by turns.
        tree = Tree(TurnRule((6, 1), 6, turn=(8, 1), turn_plus=6))
        for step in range(700):
            tree.put(step if step % 2 else 2000 - step)
        layout = tree.layout
        self.assertEqual((tree.height, str(tree)), (playing.height(layout), playing.text(layout)))
        self.assertEqual(list(tree), playing.keys_of_layout(layout))

    def test_values_of_all_kinds(self):
        for tree in (Tree(RULE), Tree(RULE, [(1, "a"), (0, "b"), (7, None)])):
            for value in any_values():
                if not is_key(value):
                    self.assertIs(value in tree, False)
                    self.assertIs(tree.get(value), None)
                    self.assertEqual(tree.get(value, "other"), "other")
                    assert_raises(self, BadKey(value), tree.below, value)
                    assert_raises(self, BadKey(value), tree.above, value)
                    assert_raises(self, BadKey(value), tree.place, value)
                    assert_raises(self, BadKey(value), lambda: list(tree.between(value, 3)))
                    assert_raises(self, BadKey(value), lambda: list(tree.between(value, "x")))
                    assert_raises(self, BadKey(value), lambda: next(tree.between(3, value)))
                if value.__class__ is not int or value not in (0, 1, 7):
                    assert_raises(self, NoKey(value), tree.__getitem__, value)
                    assert_raises(self, NoKey(value), tree.depth, value)
                self.assertIs(tree.get(99, value), value)
                if value.__class__ is not int or not 0 <= value < len(tree):
                    assert_raises(self, BadNumber(value), tree.key_at, value)
            for value in (True, False, 10 ** 30, -10 ** 30, 1.0, "1"):
                self.assertIs(value in tree, False)
        self.assertEqual((tree.get(key=1, other=2), tree.get(key=5, other=2), tree.below(key=1), tree.above(key=1)),
                         ("a", 2, 0, 7))
        self.assertEqual((tree.place(key=1), tree.key_at(index=1), tree.depth(key=1)), (1, 1, 0))

    def test_nothing_is_changed(self):
        tree = Tree(RULE, [(key, [key]) for key in range(20)])
        before = tree.layout, [tree[key] for key in tree], tree.rule
        tree.get(50, 1)
        keys = list(tree)
        keys.clear()
        list(tree.between(3, 9)).clear()
        list(tree.falling())
        self.assertEqual((tree.layout, [tree[key] for key in tree], tree.rule), before)


class EqualTest(unittest.TestCase):

    def test_keys_and_values_count(self):
        tree = Tree(RULE, [(1, "a"), (2, [1, {"b": (2,)}]), (3, None)])
        same = Tree.halves(TryRule((6, 1), 6), [(3, None), (2, [1, {"b": (2,)}]), (1, "a")])
        self.assertIs(tree == same, True)
        self.assertIs(tree != same, False)
        for key, value in ((1, "b"), (1, None), (2, [1, {"b": [2]}]), (2, (1, {"b": (2,)})), (2, [1, {"b": (2, 3)}]),
                           (2, [1, {"c": (2,)}]), (2, [1]), (3, 0), (3, ()), (3, tree), (4, None)):
            other = same.twin()
            other[key] = value
            self.assertIs(tree == other, False)
            self.assertIs(other != tree, True)
        same.drop(3)
        self.assertIs(tree == same, False)

    def test_kinds_of_values_count(self):
        for one, other in ((True, 1), (0, False), ([True], [1]), ({1: 0}, {1: False}), ((1,), [1]), ({True: 2}, {1: 2})):
            self.assertIs(Tree(RULE, [(1, one)]) == Tree(RULE, [(1, other)]), False)

    def test_layouts_and_rules_do_not_count(self):
        pairs = [(key, key) for key in range(100)]
        self.assertTrue(Tree(RULE, pairs) == Tree(TryRule((5, 2)), pairs[::-1]))
        self.assertTrue(Tree(RULE) == Tree(TryRule((5, 2))))

    def test_deep_values(self):
        one, other = (Tree(RULE, [(1, deep_tuple(3000)), (2, {"a": [deep_tuple(3000)]})]) for _ in range(2))
        self.assertIs(one == other, True)
        other[1] = (deep_tuple(2999), 2, ())
        self.assertIs(one == other, False)

    def test_trees_as_values(self):
        tree = Tree(RULE, [(1, Tree(RULE, [(2, "a")]))])
        self.assertIs(tree == Tree(RULE, [(1, Tree.halves(RULE, [(2, "a")]))]), True)
        self.assertIs(tree == Tree(RULE, [(1, Tree(RULE, [(2, "b")]))]), False)
        tree.put(2, tree)
        self.assertIs(tree == tree, True)
        self.assertIs(tree == tree.twin(), True)
        self.assertIs(tree[2] is tree, True)

    def test_other_values(self):
        for tree in (Tree(RULE), Tree(RULE, [(1, None), (2, [3])])):
            for value in [*any_values(), [1, 2], {1: None, 2: [3]}]:
                same = isinstance(value, Tree) and [(key, value[key]) for key in value] == [(key, tree[key]) for key in tree]
                self.assertIs(tree == value, same)
                self.assertIs(value == tree, same)

    def test_values_are_compared_in_all_kinds(self):
        for value in any_values():
            self.assertTrue(Tree(RULE, [(1, value)]) == Tree(RULE, [(1, value)]))
            for other in any_values():
                if value.__class__ is not other.__class__:
                    self.assertFalse(Tree(RULE, [(1, value)]) == Tree(RULE, [(1, other)]))


if __name__ == "__main__":
    unittest.main()
