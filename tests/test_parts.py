"""Trees cut, joined and compared, against sorted lists of entries."""

import random
import unittest

import playing
from evenrules.errors import BadKey, BadOther, Overlap, TooMany
from evenrules.parts import Parts
from evenrules.rules import TryRule, TurnRule
from evenrules.trees import Tree
from helping import any_values, assert_raises, run_examples

EXAMPLES = """
>>> from evenrules.rules import Rule, TurnRule
>>> from evenrules.trees import Tree
>>> rule = TurnRule((3, 1), turn=(2, 1), turn_plus=-1)
>>> tree = Tree(rule, [(1, "a"), (2, "b"), (3, "c"), (4, "d")])
>>> low, high = tree // 3, tree % 3
>>> [str(low), str(high), str(low + high), str(tree.cut(2, 4)), str(tree.cut(high=3)), low < tree, tree <= low]
['(1) 2', '(3) 4', '((1) 2) 3 (4)', '(2) 3', '(1) 2', True, False]
>>> both = low | Tree(rule, [(2, "x"), (5, "y")])
>>> [str(both), both[2], (low & both)[2], list(both - low), str(tree - tree)]
['(1) 2 (5)', 'x', 'b', [5], '-']
>>> high + low
raises Overlap(1)
"""
RULE = TurnRule((3, 1), turn=(2, 1), turn_plus=-1)
OTHER = TryRule((5, 2))
WRONG = TurnRule((3, 1), turn=(8, 1), turn_plus=6)
GREAT = 10 ** 30 - 1


def entries(tree):
    return [(key, tree[key]) for key in tree]


def is_key(value):
    return value.__class__ is int and abs(value) <= GREAT


def some_trees(seed):
    random.seed(seed)
    for many in (0, 1, 2, 5, 12, 30):
        for rule in (RULE, OTHER, WRONG):
            yield Tree(rule, [(key, [key, seed]) for key in random.sample(range(-20, 40), many)])
    yield Tree(RULE, [(GREAT, 1), (-GREAT, 2)])


class PartsCase(unittest.TestCase):

    def check(self, made, rule, wanted):
        """That a new tree of halves has a rule and entries; the values are the same objects."""
        self.assertIs(made.__class__, Tree)
        self.assertIs(made.rule, rule)
        self.assertEqual(made.layout, playing.halves_layout([key for key, _ in wanted]))
        self.assertEqual(list(made), [key for key, _ in wanted])
        self.assertTrue(all(made[key] is value for key, value in wanted))

    def state(self, tree):
        return tree.layout, entries(tree), tree.rule


class CutTest(PartsCase):

    def test_examples(self):
        run_examples(self, EXAMPLES)

    def test_the_methods_stand_in_the_class(self):
        for name in ("__floordiv__", "__mod__", "cut", "__add__", "__or__", "__and__", "__sub__", "__le__", "__lt__"):
            self.assertIn(name, vars(Parts))

    def test_cut_at_a_key(self):
        for tree in some_trees(1):
            before, all_of_it = self.state(tree), entries(tree)
            for key in [*range(-22, 43, 3), GREAT, -GREAT, *tree]:
                self.check(tree // key, tree.rule, [entry for entry in all_of_it if entry[0] < key])
                self.check(tree % key, tree.rule, [entry for entry in all_of_it if entry[0] >= key])
            self.assertEqual(self.state(tree), before)

    def test_cut_between_keys(self):
        for tree in some_trees(2):
            all_of_it = entries(tree)
            for low in (None, -30, -3, 0, 9, 41, GREAT):
                for high in (None, -25, -3, 1, 10, 50, GREAT):
                    wanted = [(key, value) for key, value in all_of_it
                              if (low is None or low <= key) and (high is None or key < high)]
                    self.check(tree.cut(low, high), tree.rule, wanted)
                    self.check(tree.cut(high=high, low=low), tree.rule, wanted)
            self.check(tree.cut(), tree.rule, all_of_it)

    def test_cut_in_place(self):
        tree = same = Tree(RULE, [(key, None) for key in range(9)])
        tree //= 5
        self.assertEqual((list(tree), len(same)), ([0, 1, 2, 3, 4], 9))
        tree %= 2
        self.assertEqual((list(tree), len(same), tree is same), ([2, 3, 4], 9, False))

    def test_wrong_keys(self):
        tree = Tree(RULE, [(1, 1), (2, 2)])
        for value in any_values():
            if is_key(value):
                continue
            assert_raises(self, BadKey(value), lambda: tree // value)
            assert_raises(self, BadKey(value), lambda: tree % value)
            if value is not None:
                assert_raises(self, BadKey(value), tree.cut, value, "x")
                assert_raises(self, BadKey(value), tree.cut, 1, value)
                assert_raises(self, BadKey(value), tree.cut, None, value)
                assert_raises(self, BadKey(value), tree.cut, high=value)
        assert_raises(self, BadKey("x"), tree.cut, "x", "y")


class JoinedTest(PartsCase):

    def test_joined(self):
        for one in some_trees(3):
            for other in some_trees(4):
                moved = Tree.halves(other.rule, [(key + 100, value) for key, value in entries(other) if abs(key) < 100])
                states = self.state(one), self.state(moved)
                if len(one) and len(moved) and one.greatest() > 50:
                    assert_raises(self, Overlap(moved.least()), lambda: one + moved)
                else:
                    self.check(one + moved, one.rule, entries(one) + entries(moved))
                self.assertEqual((self.state(one), self.state(moved)), states)

    def test_overlaps(self):
        one = Tree(RULE, [(key, None) for key in (1, 5, 9)])
        for keys, least in (([9, 10], 9), ([8, 20], 8), ([0], 0), ([1], 1), ([-5, 30, 40], -5), ([5, 7], 5)):
            other = Tree(OTHER, [(key, None) for key in keys])
            assert_raises(self, Overlap(least), lambda: one + other)
        assert_raises(self, Overlap(1), lambda: one + one)
        single = Tree(RULE, [(5, None)])
        for keys, least in (([5], 5), ([4], 4), ([3, 7], 3), ([5, 6], 5), ([-1, 0, 9], -1)):
            assert_raises(self, Overlap(least), lambda: single + Tree(OTHER, [(key, None) for key in keys]))
        self.assertEqual(list(single + Tree(OTHER, [(6, None)])), [5, 6])
        self.assertEqual(list(one + Tree(OTHER)), [1, 5, 9])
        self.assertEqual(list(Tree(OTHER) + one), [1, 5, 9])
        self.assertEqual(list(Tree(OTHER) + Tree(OTHER)), [])

    def test_in_place(self):
        tree = same = Tree(RULE, [(1, "a"), (2, "b")])
        tree += Tree(OTHER, [(3, "c")])
        self.assertEqual((list(tree), list(same), tree is same), ([1, 2, 3], [1, 2], False))
        tree -= same
        self.assertEqual((list(tree), list(same)), ([3], [1, 2]))
        tree &= same
        self.assertEqual((list(tree), list(same)), ([], [1, 2]))

    def test_later_changes_have_no_effect(self):
        one, other = Tree(RULE, [(1, "a"), (2, "b")]), Tree(OTHER, [(3, "c")])
        made = [one + other, one | other, one & one, one - other, one // 2, one % 1, one.cut()]
        before = [self.state(tree) for tree in made]
        one.put(7)
        one[1] = "x"
        one.drop(2)
        one.rule = WRONG
        other.drop(3)
        self.assertEqual([self.state(tree) for tree in made], before)
        states = self.state(one), self.state(other)
        for tree in made:
            tree.put(50)
            tree.rule = OTHER
        self.assertEqual((self.state(one), self.state(other)), states)

    def test_of_both(self):
        for one in some_trees(5):
            for other in some_trees(6):
                states = self.state(one), self.state(other)
                mine, its = dict(entries(one)), dict(entries(other))
                both = sorted({**mine, **its})
                self.check(one | other, one.rule, [(key, its[key] if key in its else mine[key]) for key in both])
                self.check(one & other, one.rule, [(key, mine[key]) for key in sorted(mine) if key in its])
                self.check(one - other, one.rule, [(key, mine[key]) for key in sorted(mine) if key not in its])
                self.assertEqual((self.state(one), self.state(other)), states)

    def test_compared(self):
        for one in some_trees(7):
            self.assertIs(one <= one, True)
            self.assertIs(one < one, False)
            for other in [*some_trees(8), *[one // key for key in list(one)[::3]], *[one.cut(key) for key in list(one)[:2]],
                          Tree(WRONG, [(key, "x") for key in one])]:
                mine, its = set(one), set(other)
                self.assertIs(one <= other, mine <= its)
                self.assertIs(one < other, mine < its)
                self.assertIs(other <= one, its <= mine)
                self.assertIs(other < one, its < mine)
                self.assertIs(one >= other, mine >= its)
                self.assertIs(one > other, mine > its)

    def test_many_keys(self):
        low = Tree.halves(RULE, [(key, key) for key in range(1000)])
        high = Tree.halves(OTHER, [(key, -key) for key in range(1000, 2001)])
        assert_raises(self, TooMany("keys", 2000), lambda: low + high)
        assert_raises(self, TooMany("keys", 2000), lambda: low | high)
        assert_raises(self, TooMany("keys", 2000), lambda: high | low)
        assert_raises(self, Overlap(0), lambda: high + low)
        states = self.state(low), self.state(high)
        self.assertEqual((self.state(low), self.state(high)), states)
        high.drop(2000)
        self.check(low + high, RULE, entries(low) + entries(high))
        self.check(high | low, OTHER, entries(low) + entries(high))
        whole = low + high
        self.assertEqual((low < whole, high < whole, whole <= whole | low, list(whole & high) == list(high),
                          list(whole - low) == list(high)), (True, True, True, True, True))
        self.assertEqual(entries(whole // 1500 + whole % 1500), entries(whole))

    def test_what_is_no_tree(self):
        tree = Tree(RULE, [(1, 1), (2, 2)])
        for value in [*any_values(), {1: 1}, [(1, 1)], (1, 2)]:
            if isinstance(value, Tree):
                continue
            for action in (lambda: tree + value, lambda: tree | value, lambda: tree & value, lambda: tree - value,
                           lambda: tree <= value, lambda: tree < value):
                assert_raises(self, BadOther("other"), action)


if __name__ == "__main__":
    unittest.main()
