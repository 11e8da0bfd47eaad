"""Live trees: deeds against a playing of their own, stuck deeds, exchanged rules, trials and twins."""

import random
import unittest

import playing
from evenrules.errors import BadKey, BadOther, BadRule, NoKey, Stuck, Taken, TooMany
from evenrules.judged import judge
from evenrules.parts import Parts
from evenrules.reading import Reading
from evenrules.rules import TryRule, TurnRule
from evenrules.trees import Tree
from helping import any_values, assert_raises, run_examples
from shaping import all_shapes

EXAMPLES = """
>>> from evenrules.rules import TryRule, TurnRule
>>> three, four = TurnRule((3, 1), turn=(2, 1), turn_plus=-1), TurnRule((4, 1), turn=(2, 1), turn_plus=-1)
>>> from evenrules.trees import Tree
>>> tree = Tree(three, [(1, "p"), (2, "q"), (3, "r")])
>>> [tree.layout, tree.height, len(tree)]
[((), 1, ((), 2, ((), 3, ()))), 3, 3]
>>> tree[4] = "s"
>>> tree.layout
(((), 1, ()), 2, ((), 3, ((), 4, ())))
>>> tree.put(5)
>>> [tree.drop(1), tree.layout, tree.unfair()]
['p', (((), 2, ()), 3, ((), 4, ((), 5, ()))), ()]
>>> long = Tree(TryRule((3, 1)), [(1, None), (2, None), (3, None)])
>>> long.rule = TryRule((2, 1))
>>> [long.layout, long == Tree.halves(three, [(3, None), (2, None), (1, None)])]
[(((), 1, ()), 2, ((), 3, ())), True]
>>> tree.tried(lambda same: [same.drop(3), len(same), same.layout])
['r', 3, (((), 2, ()), 4, ((), 5, ()))]
>>> [len(tree), tree[3]]
[4, 'r']
>>> tree.drop(7)
raises NoKey(7)
"""
THREE = TurnRule((3, 1), turn=(2, 1), turn_plus=-1)
FOUR = TurnRule((4, 1), turn=(2, 1), turn_plus=-1)
STICKY = TurnRule((3, 1), turn=(1, 2), turn_plus=-6)
RULES = [THREE, FOUR, STICKY, TryRule((3, 1)), TryRule((2, 1)), TryRule((5, 2), -1), TurnRule((5, 2), turn=(3, 2)),
         TurnRule((6, 1), 6, turn=(8, 1), turn_plus=6), TurnRule((1, 1), 1, turn=(1, 1)), TryRule((1, 1), 1),
         TurnRule((6, 5), 4, turn=(1, 8), turn_plus=0), TurnRule((3, 1), -1, turn=(1, 1), turn_plus=-1), TryRule((6, 1), -4)]


class Model:
    """What a tree should be: a layout and values, played by point [5]."""

    def __init__(self, rule):
        self.rule = rule
        self.layout = ()
        self.values = {}

    def put(self, key, value):
        if key not in self.values:
            self.layout = playing.put(self.rule, self.layout, key)
        self.values[key] = value

    def drop(self, key):
        self.layout = playing.take(self.rule, self.layout, key)
        return self.values.pop(key)


class TreeCase(unittest.TestCase):

    def check(self, tree, model):
        """That a tree has the layout and the values of a model."""
        self.assertEqual(tree.layout, model.layout)
        self.assertEqual(list(tree), sorted(model.values))
        for key, value in model.values.items():
            self.assertIs(tree[key], value)
        self.assertIs(tree.rule, model.rule)
        self.assertEqual(len(tree), len(model.values))

    def frozen(self, tree):
        return tree.layout, list(tree), [tree[key] for key in tree], tree.rule


class MadeTest(TreeCase):

    def test_examples(self):
        run_examples(self, EXAMPLES)

    def test_classes(self):
        self.assertEqual((Tree.__bases__, Parts.__bases__, Tree.MOST), ((Parts,), (Reading,), 2000))
        for name in ("__init__", "halves", "put", "__setitem__", "drop", "__ior__", "rule", "exchange", "unfair", "trial",
                     "tried", "twin"):
            self.assertIn(name, vars(Tree))

    def test_made_of_pairs_one_by_one(self):
        random.seed(1)
        for rule in RULES:
            for many in range(30):
                pairs = [(random.randint(-9, 9), object()) for _ in range(many)]
                model = Model(rule)
                try:
                    for key, value in pairs:
                        model.put(key, value)
                except playing.IsStuck:
                    assert_raises(self, Stuck(key), Tree, rule, pairs)
                    continue
                self.check(Tree(rule, pairs), model)
                self.check(Tree(items=tuple(pairs), rule=rule), model)

    def test_great_keys_and_any_values(self):
        great = 10 ** 30 - 1
        tree = Tree(THREE, [(great, 1), (-great, 2), (0, 3), (great - 1, 4)])
        self.assertEqual([(key, tree[key]) for key in tree], [(-great, 2), (0, 3), (great - 1, 4), (great, 1)])
        for value in any_values():
            tree.put(7, value)
            self.assertIs(tree[7], value)
            tree[8] = value
            self.assertIs(tree.drop(8), value)
            self.assertIs(Tree(FOUR, [(1, None), (1, value)])[1], value)
            self.assertIs(Tree.halves(FOUR, [(1, value)])[1], value)

    def test_values_are_not_copied(self):
        value = [1]
        tree = Tree(THREE, [(1, value)])
        value.append(2)
        self.assertEqual(tree[1], [1, 2])
        self.assertIs(tree.twin()[1], value)
        self.assertIs((tree // 2)[1], value)

    def test_what_was_passed_may_be_changed(self):
        pairs = [(1, "a"), (2, "b")]
        tree, other = Tree(THREE, pairs), Tree.halves(THREE, pairs)
        pairs.append((3, "c"))
        pairs[0] = (9, "x")
        self.assertEqual((list(tree), list(other)), ([1, 2], [1, 2]))

    def test_wrong_arguments(self):
        for value in any_values():
            if not isinstance(value, (TurnRule, TryRule)):
                for make in (Tree, Tree.halves):
                    assert_raises(self, BadRule("rule"), make, value, [])
                    assert_raises(self, BadRule("rule"), make, value, value)
                assert_raises(self, BadRule("rule"), Tree, value)
            if value != () and value != []:
                for make in (Tree, Tree.halves):
                    assert_raises(self, BadOther("items"), make, THREE, value)
            if not isinstance(value, tuple) or len(value) != 2:
                for make in (Tree, Tree.halves):
                    assert_raises(self, BadOther("items"), make, THREE, [("no key", 1), value])
            if value.__class__ is not int or abs(value) >= 10 ** 30:
                for make in (Tree, Tree.halves):
                    assert_raises(self, BadKey(value), make, THREE, [(1, 1), (value, 2), ("x", 3)])
        for pair in ([1, 2], (1,), (1, 2, 3), "ab", {1: 2, 3: 4}, None):
            assert_raises(self, BadOther("items"), Tree, THREE, [(1, 2), pair])
            assert_raises(self, BadOther("items"), Tree.halves, THREE, ((1, 2), pair))
        self.assertEqual((list(Tree(THREE, ())), list(Tree(THREE, [])), list(Tree(THREE))), ([], [], []))

    def test_the_first_put_that_raises(self):
        assert_raises(self, BadKey("a"), Tree, THREE, [(1, 1), ("a", 1), (None, 2)])
        many = [(key, None) for key in range(2000)]
        assert_raises(self, TooMany("keys", 2000), Tree, THREE, [*many, (2000, None), ("a", 1)])
        assert_raises(self, BadKey("a"), Tree, THREE, [*many, ("a", 1), (2000, None)])
        self.assertEqual(Tree(THREE, [*many, (5, "five")])[5], "five")
        rule = TurnRule((3, 1), turn=(1, 8), turn_plus=-6)
        assert_raises(self, Stuck(4), Tree, rule, [(1, 1), (2, 1), (3, 1), (4, 1), ("a", 1)])
        assert_raises(self, BadKey("a"), Tree, rule, [(1, 1), (2, 1), (3, 1), ("a", 1), (4, 1)])


class HalvesTest(TreeCase):

    def test_halves(self):
        random.seed(2)
        for many in [*range(40), 999, 2000]:
            keys = random.sample(range(-10 ** 6, 10 ** 6), many)
            for rule in RULES[::4]:
                tree = Tree.halves(rule, [(key, str(key)) for key in keys])
                self.assertEqual(tree.layout, playing.halves_layout(sorted(keys)))
                self.assertIs(tree.rule, rule)
                self.assertEqual([tree[key] for key in keys], [str(key) for key in keys])
                self.assertEqual(tree.unfair(), ())
        self.assertEqual(Tree.halves(items=((2, 1), (1, 1)), rule=THREE).layout, (((), 1, ()), 2, ()))

    def test_errors_in_their_order(self):
        many = [(key, None) for key in range(2001)]
        assert_raises(self, TooMany("keys", 2000), Tree.halves, THREE, many)
        assert_raises(self, Taken(7), Tree.halves, THREE, [*many, (7, None)])
        assert_raises(self, Taken(2), Tree.halves, THREE, [(1, 0), (2, 0), (2, 0), (1, 0)])
        assert_raises(self, BadKey(True), Tree.halves, THREE, [*many, (7, None), (True, 1), ("x", 1)])
        assert_raises(self, BadOther("items"), Tree.halves, THREE, [*many, (7, None), (True, 1), [1, 2]])
        assert_raises(self, BadRule("rule"), Tree.halves, None, None)


class DeedsTest(TreeCase):

    def test_rows_of_deeds(self):
        random.seed(3)
        for rule in RULES:
            stuck = 0
            for _ in range(6):
                tree, model = Tree(rule), Model(rule)
                for step in range(120):
                    stuck += self.one_deed(tree, model, step)
            self.assertEqual(stuck > 0, rule in (STICKY, RULES[10]), str(rule))

    def one_deed(self, tree, model, step):
        """A deed by one of the ways; returns whether it was stuck."""
        key, value = random.randint(0, 40), [step]
        if key in model.values and random.random() < 0.7:
            own = model.values[key]

            def deed():
                self.assertIs(tree.drop(key), own)
            play = (model.drop, key)
        elif random.random() < 0.5:
            deed, play = (lambda: tree.put(key, value)), (model.put, key, value)
        else:
            deed, play = (lambda: tree.__setitem__(key, value)), (model.put, key, value)
        before = self.frozen(tree)
        try:
            play[0](*play[1:])
        except playing.IsStuck:
            assert_raises(self, Stuck(key), deed)
            self.assertEqual(self.frozen(tree), before)
            return True
        deed()
        self.check(tree, model)
        return False

    def test_all_deeds_in_small_fair_trees(self):
        # The rows of deeds above seldom come to all of them.
        for rule in RULES:
            for shape in shapes_up_to(rule, 7):
                layout = playing.layout_of(shape)
                keys = playing.keys_of_layout(layout)
                for key in keys:
                    self.check_deed(rule, layout, keys, key, True)
                for place in range(len(keys) + 1):
                    self.check_deed(rule, spread_out(layout), [2 * key for key in keys], 2 * place + 1, False)

    def check_deed(self, rule, layout, keys, key, is_take):
        tree = tree_of(rule, layout)
        play = playing.take if is_take else playing.put
        deed = tree.drop if is_take else tree.put
        try:
            wanted = play(rule, layout, key)
        except playing.IsStuck:
            assert_raises(self, Stuck(key), deed, key)
            self.assertEqual((tree.layout, list(tree)), (layout, keys))
        else:
            deed(key)
            self.assertEqual(tree.layout, wanted)
            self.assertEqual(tree.unfair(), tuple(playing.unfair_keys(rule, wanted)))

    def test_stuck_deeds_where_nodes_below_were_turned(self):
        # In a fair tree this cannot be: so rows of deeds by wrong rules go on where nodes are not fair.
        random.seed(4)
        found = {True: 0, False: 0}
        for rule in (TurnRule((5, 5), 6, turn=(1, 8), turn_plus=-3), TurnRule((4, 4), 6, turn=(1, 6), turn_plus=-1)):
            for _ in range(8):
                tree, model = Tree(rule), Model(rule)
                for step in range(250):
                    is_take = random.random() < 0.45 and len(tree) > 0
                    key = random.choice(list(tree)) if is_take else random.randint(0, 60)
                    playing.TURNS.clear()
                    try:
                        if is_take:
                            model.drop(key)
                        else:
                            model.put(key, step)
                    except playing.IsStuck:
                        found[is_take] += len(playing.TURNS) > 0
                        before = self.frozen(tree)
                        assert_raises(self, Stuck(key), tree.drop if is_take else tree.put, key)
                        self.assertEqual(self.frozen(tree), before)
                    else:
                        tree.drop(key) if is_take else tree.put(key, step)
                    self.assertEqual(tree.layout, model.layout)
        self.assertGreater(min(found.values()), 0)

    def test_two_thousand_keys(self):
        random.seed(5)
        keys = list(range(0, 4000, 2))
        random.shuffle(keys)
        tree = Tree(THREE)
        for key in keys:
            tree[key] = -key
        self.assertEqual((len(tree), tree.unfair()), (2000, ()))
        before = self.frozen(tree)
        for value in (1, -1, 10 ** 30 - 1):
            assert_raises(self, TooMany("keys", 2000), tree.put, value)
            assert_raises(self, TooMany("keys", 2000), tree.__setitem__, value, 1)
        assert_raises(self, BadKey("x"), tree.put, "x")
        assert_raises(self, BadKey(10 ** 30), tree.put, 10 ** 30)
        assert_raises(self, TooMany("keys", 2000), tree.__ior__, Tree(FOUR, [(2, "new"), (3, "newer")]))
        self.assertEqual(self.frozen(tree), before)
        tree[2] = "changed"
        self.assertEqual((tree[2], tree.layout), ("changed", before[0]))
        self.assertEqual(tree.drop(10), -10)
        tree.put(11)
        self.assertEqual((len(tree), tree.unfair(), 11 in tree, 10 in tree), (2000, (), True, False))
        assert_raises(self, TooMany("keys", 2000), tree.put, 10)
        for key in list(tree)[::2]:
            tree.drop(key)
        self.assertEqual((len(tree), tree.unfair()), (1000, ()))

    def test_a_full_tree_tells_too_many_ahead_of_stuck(self):
        tree = Tree.halves(STICKY, [(key, None) for key in range(2000)])
        for key in (-1, 2000):
            assert_raises(self, TooMany("keys", 2000), tree.put, key)

    def test_wrong_keys(self):
        tree = Tree(THREE, [(1, "a"), (2, "b")])
        before = self.frozen(tree)
        for value in any_values():
            if value.__class__ is int and abs(value) < 10 ** 30:
                if value != 1:
                    assert_raises(self, NoKey(value), tree.drop, value)
                continue
            assert_raises(self, BadKey(value), tree.put, value)
            assert_raises(self, BadKey(value), tree.put, value, 1)
            assert_raises(self, BadKey(value), tree.__setitem__, value, 1)
            assert_raises(self, NoKey(value), tree.drop, value)
        self.assertEqual(self.frozen(tree), before)
        tree.put(value=5, key=3)
        self.assertEqual((tree[3], tree.drop(key=3), tree.put(4), tree[4]), (5, 5, None, None))

    def test_a_right_rule_keeps_all_nodes_fair(self):
        random.seed(6)
        for rule in RULES:
            if judge(rule):
                tree = Tree(rule)
                for _ in range(1500):
                    key = random.randint(0, 60)
                    if key in tree:
                        tree.drop(key)
                    else:
                        tree.put(key)
                    self.assertEqual(tree.unfair(), ())

    def test_keys_in_a_loop_over_a_tree(self):
        tree = Tree(THREE, [(key, key) for key in range(50)])
        for key in tree:
            tree.drop(key)
        self.assertEqual(len(tree), 0)


class UnitedTest(TreeCase):

    def test_the_entries_of_another_tree(self):
        random.seed(7)
        for rule in RULES:
            for _ in range(20):
                model = Model(rule)
                tree = Tree.halves(rule, [(key, [key]) for key in random.sample(range(30), 9)])
                model.layout, model.values = tree.layout, {key: tree[key] for key in tree}
                other = Tree.halves(THREE, [(key, [-key]) for key in random.sample(range(30), 9)])
                before, its = self.frozen(tree), self.frozen(other)
                same = tree
                try:
                    for key in other:
                        model.put(key, other[key])
                except playing.IsStuck:
                    assert_raises(self, Stuck(key), tree.__ior__, other)
                    self.assertEqual(self.frozen(tree), before)
                else:
                    tree |= other
                    self.assertIs(tree, same)
                    self.check(tree, model)
                self.assertEqual(self.frozen(other), its)

    def test_a_tree_into_itself(self):
        for rule in RULES:
            tree = Tree.halves(rule, [(key, [key]) for key in range(20)])
            same, before = tree, self.frozen(tree)
            tree |= tree
            self.assertIs(tree, same)
            self.assertEqual(self.frozen(tree), before)

    def test_a_stuck_put_behind_others(self):
        rule = TurnRule((3, 1), turn=(1, 8), turn_plus=-6)
        tree, other = Tree(rule, [(1, "a"), (2, "b")]), Tree(THREE, [(2, "x"), (3, "c"), (4, "d")])
        before = self.frozen(tree)
        assert_raises(self, Stuck(4), tree.__ior__, other)
        self.assertEqual(self.frozen(tree), before)

    def test_what_is_no_tree(self):
        for value in [*any_values(), [(1, 2)], {1: 2}]:
            if isinstance(value, Tree):
                continue
            tree = Tree(THREE, [(1, 1)])
            before = self.frozen(tree)
            with self.assertRaises(BadOther) as caught:
                tree |= value
            self.assertEqual(caught.exception.part, "other")
            self.assertEqual(self.frozen(tree), before)


class RuleTest(TreeCase):

    def test_rules_exchanged(self):
        random.seed(8)
        for number, rule in enumerate(RULES):
            for other in RULES:
                tree = Tree.halves(THREE, [(-key, None) for key in range(7)])
                try:
                    tree = Tree(rule, [(key, [key]) for key in random.sample(range(90), 40)])
                except Stuck:
                    pass
                wanted = playing.exchanged(other, tree.layout)
                values = [tree[key] for key in tree]
                if number % 2:
                    self.assertIsNone(tree.exchange(other))
                else:
                    tree.rule = other
                self.assertEqual((tree.layout, tree.unfair()), (wanted, ()))
                self.assertIs(tree.rule, other)
                self.assertTrue(all(tree[key] is value for key, value in zip(tree, values)))

    def test_an_equal_rule(self):
        rule = TurnRule((3, 1), turn=(8, 1), turn_plus=6)
        tree = Tree(rule, [(1, 0), (9, 0), (2, 0), (8, 0), (3, 0), (7, 0), (4, 0), (6, 0), (5, 0)])
        keys = tree.unfair()
        self.assertNotEqual(keys, ())
        wanted = playing.exchanged(rule, tree.layout)
        self.assertNotEqual(wanted, tree.layout)
        tree.rule = TurnRule((3, 1), turn=(8, 1), turn_plus=6)
        self.assertEqual((tree.layout, tree.unfair()), (wanted, ()))

    def test_just_the_topmost_nodes_are_built_anew(self):
        # The root stays as it is; its left side, a long one, is built anew, its right one, fair, is not.
        tree = Tree(TryRule((6, 1), 6), [(4, 0), (3, 0), (2, 0), (1, 0), (6, 0), (5, 0), (7, 0), (8, 0)])
        self.assertEqual(str(tree), "(((1) 2) 3) 4 ((5) 6 (7 (8)))")
        tree.rule = TryRule((5, 2))
        self.assertEqual(str(tree), "((1) 2 (3)) 4 ((5) 6 (7 (8)))")

    def test_what_is_no_rule(self):
        tree = Tree(THREE, [(1, 1), (2, 2)])
        before = self.frozen(tree)
        for value in any_values():
            if not isinstance(value, (TurnRule, TryRule)):
                assert_raises(self, BadRule("rule"), tree.exchange, value)
                with self.assertRaises(BadRule) as caught:
                    tree.rule = value
                self.assertEqual(caught.exception.part, "rule")
        self.assertEqual(self.frozen(tree), before)
        tree.exchange(rule=FOUR)
        self.assertIs(tree.rule, FOUR)

    def test_unfair(self):
        for rule in RULES:
            for shape in shapes_up_to(TryRule((6, 1), 6), 6):
                layout = playing.layout_of(shape)
                tree = tree_of(TryRule((6, 1), 6), layout)
                self.assertEqual(tree.unfair(), ())
        tree = Tree(FOUR, [(key, None) for key in (2, 1, 7, 4, 8, 3, 5, 6, 9)])
        tree.drop(1)
        self.assertEqual(tree.unfair(), tuple(playing.unfair_keys(FOUR, tree.layout)))


class TrialTest(TreeCase):

    def test_a_trial(self):
        tree = Tree(THREE, [(key, [key]) for key in range(9)])
        before = self.frozen(tree)
        with tree.trial() as same:
            self.assertIs(same, tree)
            same.drop(4)
            same[99] = 1
            same[1] = "other"
            same.rule = FOUR
            same |= Tree(THREE, [(77, 7)])
            self.assertEqual(list(tree), [0, 1, 2, 3, 5, 6, 7, 8, 77, 99])
        self.assertEqual(self.frozen(tree), before)
        self.assertIs(tree.rule, THREE)
        tree.put(10)
        self.assertEqual(len(tree), 10)

    def test_nested_trials(self):
        tree = Tree(THREE, [(key, [key]) for key in range(5)])
        before = self.frozen(tree)
        with tree.trial():
            tree.drop(0)
            middle = self.frozen(tree)
            with tree.trial() as same:
                same.drop(1)
                with same.trial():
                    same.drop(2)
                    self.assertEqual(list(tree), [3, 4])
                self.assertEqual(list(tree), [2, 3, 4])
            self.assertEqual(self.frozen(tree), middle)
        self.assertEqual(self.frozen(tree), before)

    def test_one_trial_in_itself_and_again(self):
        tree = Tree(THREE, [(1, 1), (2, 2)])
        before, block = self.frozen(tree), tree.trial()
        with block:
            tree.drop(1)
            with block:
                tree.drop(2)
            self.assertEqual(list(tree), [2])
        self.assertEqual(self.frozen(tree), before)
        tree.put(3)
        with block:
            tree.drop(3)
            tree.drop(1)
        self.assertEqual(list(tree), [1, 2, 3])

    def test_errors_leave_the_block(self):
        tree = Tree(THREE, [(key, [key]) for key in range(9)])
        before = self.frozen(tree)
        for error in (ZeroDivisionError, NoKey, KeyboardInterrupt):
            with self.assertRaises(error):
                with tree.trial():
                    tree.drop(3)
                    raise error(1)
            self.assertEqual(self.frozen(tree), before)

        def work(same):
            same.drop(3)
            same.rule = FOUR
            same.drop(3)

        assert_raises(self, NoKey(3), tree.tried, work)
        self.assertEqual(self.frozen(tree), before)

    def test_tried(self):
        tree = Tree(THREE, [(key, [key]) for key in range(9)])
        before = self.frozen(tree)
        self.assertIs(tree.tried(lambda same: same), tree)
        self.assertEqual(tree.tried(work=lambda same: (same.drop(2), same.tried(lambda it: it.drop(3)), 3 in same)),
                         ([2], [3], True))
        self.assertEqual(self.frozen(tree), before)

    def test_twins(self):
        tree = Tree(FOUR, [(key, [key]) for key in (5, 2, 8, 1, 9)])
        other = tree.twin()
        self.assertIsNot(other, tree)
        self.assertEqual(self.frozen(other), self.frozen(tree))
        self.assertIs(other.__class__, Tree)
        before = self.frozen(tree)
        other.put(3)
        other[5] = "x"
        other.drop(9)
        other.rule = THREE
        self.assertEqual(self.frozen(tree), before)
        before = self.frozen(other)
        tree.drop(1)
        tree.put(4)
        self.assertEqual(self.frozen(other), before)
        with tree.trial() as same:
            third = same.twin()
            third.put(100)
            same.put(200)
        self.assertEqual((100 in third, 200 in third, 100 in tree, 200 in tree), (True, False, False, False))


def shapes_up_to(rule, most):
    """All fair shapes of a rule of up to so many keys."""
    return [shape for keys in range(most + 1) for shape in all_shapes(rule, keys + 1)]


def spread_out(layout):
    """The layout with all keys doubled."""
    return () if layout == () else (spread_out(layout[0]), 2 * layout[1], spread_out(layout[2]))


def tree_of(rule, layout):
    """A tree with a fair layout."""
    tree = Tree(rule, [(key, None) for key in playing.way_of_puts(layout)])
    assert tree.layout == layout
    return tree


if __name__ == "__main__":
    unittest.main()
