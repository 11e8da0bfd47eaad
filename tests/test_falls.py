"""Falls: the fair tree and the key of a wrong rule, and what the deed leaves."""

import unittest

import playing
from breaking import breaks_of, heavy_weights, is_left_by, numbers_of_case
from evenrules.errors import BadOther, BadRule, Stuck, TooMany
from evenrules.falls import fall_of
from evenrules.judged import Right, Wrong, breaks, judge
from evenrules.rules import TryRule, TurnRule, WeightRule
from evenrules.trees import Tree
from helping import any_values, assert_raises
from test_judged import FAR, FOUR, THREE, some_rules

STICKY = TurnRule((3, 1), turn=(1, 2), turn_plus=-6)


def halves_from(start, weight):
    """The layout of the tree of halves of a weight whose least key is start, and the key behind its greatest one."""
    return playing.halves_layout(list(range(start, start + weight - 1))), start + weight - 1


def told_fall(wrong):
    """The layout of the tree and the key, by the words of the document."""
    a, *parts = wrong.numbers
    light, root = halves_from(1, a if wrong.deed == "put" else a + 1)
    heavy, behind = halves_from(root + 1, parts[0])
    for weight in parts[1:]:
        side, following = halves_from(behind + 1, weight)
        heavy, behind = (heavy, behind, side), following
    if wrong.deed == "take":
        key, _ = playing.without_end(light)
        return (light, root, heavy), key
    key, heavy = playing.without_end(heavy)
    return (light, root, heavy), key


class FallsTest(unittest.TestCase):

    def check(self, rule, wrong):
        """That a fall is as told, and that its deed spoils it; returns whether it is stuck."""
        tree, key = fall_of(rule, wrong)
        layout, wanted = told_fall(wrong)
        self.assertIs(tree.__class__, Tree)
        self.assertEqual((tree.layout, key, key.__class__), (layout, wanted, int))
        self.assertIs(tree.rule, rule)
        self.assertEqual((tree.unfair(), playing.unfair_keys(rule, layout)), ((), []))
        self.assertEqual({tree[other] for other in tree} - {None}, set())
        whole = sorted([*tree, key]) if wrong.deed == "put" else list(tree)
        self.assertEqual(whole, list(range(1, len(whole) + 1)))
        self.assertIs(key in tree, wrong.deed == "take")
        if len(tree) == 2000 and wrong.deed == "put":
            # The tree has just as many keys as it may; one more cannot be put.
            assert_raises(self, TooMany("keys", 2000), tree.put, key)
            return False
        play, deed = (playing.put, tree.put) if wrong.deed == "put" else (playing.take, tree.drop)
        try:
            behind = play(rule, layout, key)
        except playing.IsStuck:
            assert_raises(self, Stuck(key), deed, key)
            self.assertEqual(tree.layout, layout)
            return True
        deed(key)
        self.assertEqual(tree.layout, behind)
        self.assertNotEqual(tree.unfair(), ())
        self.assertEqual(tree.unfair(), tuple(playing.unfair_keys(rule, behind)))
        return False

    def test_the_example(self):
        tree, key = fall_of(FOUR, judge(FOUR))
        self.assertEqual((str(tree), key, tree.unfair()), ("(1) 2 ((((3) 4) 5 (6)) 7 ((8) 9))", 1, ()))
        self.assertEqual((tree.drop(key), tree.unfair()), (None, (2,)))

    def test_told_wrongs(self):
        stuck = {"put": 0, "take": 0}
        for rule in [*some_rules(11, 200), STICKY]:
            for deeds in ("put", "take", "both"):
                wrong = judge(rule, deeds)
                if not wrong:
                    is_stuck = self.check(rule, wrong)
                    self.assertIs(is_stuck, wrong.twice == ("inner", "none") and isinstance(rule, TurnRule))
                    stuck[wrong.deed] += is_stuck
        self.assertGreater(min(stuck.values()), 3)

    def test_great_ones(self):
        for text, _, deeds, _ in FAR:
            rule = WeightRule.read(text)
            self.assertFalse(self.check(rule, judge(rule, deeds)))
        for rule in (FOUR, TryRule((2, 1)), TurnRule((2, 1), turn=(8, 1))):
            for light in (50, 123, 300):
                for heavy in heavy_weights(rule, light):
                    for deed in ("put", "take"):
                        wrong = breaks(rule, deed, light, heavy)
                        if wrong is not None and light + heavy < 2000:
                            self.check(rule, wrong)

    def test_other_numbers_that_break(self):
        many = 0
        for rule in [*some_rules(12, 25), FOUR, STICKY, TryRule((2, 1)), TryRule((5, 1))]:
            for light in range(1, 6):
                for heavy in heavy_weights(rule, light):
                    for deed in ("put", "take"):
                        if not is_left_by(rule, deed, light, heavy):
                            continue
                        for once, twice in breaks_of(rule):
                            for numbers in list(numbers_of_case(rule, once, twice, light, heavy))[::5]:
                                self.check(rule, Wrong(deed, once, twice, numbers))
                                many += 1
        self.assertGreater(many, 300)

    def test_too_many_keys(self):
        rules = [TurnRule((2, 1), plus, turn=(8, 1), turn_plus=6) for plus in (0, 1, 2)]
        for deed, greatest in (("put", 2002), ("take", 2000)):
            seen = set()
            for rule in rules:
                for light in range(664, 669):
                    for heavy in heavy_weights(rule, light):
                        wrong = breaks(rule, deed, light, heavy)
                        if wrong is not None:
                            self.check_size(rule, wrong, greatest)
                            seen.add(light + heavy - greatest)
            self.assertTrue({-1, 0, 1} <= seen, (deed, seen))
        wrong = breaks(rules[0], "take", 10 ** 11, 2 * 10 ** 11 + 1)
        assert_raises(self, TooMany("keys", 2000), fall_of, rules[0], wrong)

    def check_size(self, rule, wrong, greatest):
        """That the fall has as many keys as its weights tell, or is refused if these are too great together."""
        weight = sum(wrong.numbers)
        if weight > greatest:
            assert_raises(self, TooMany("keys", 2000), fall_of, rule, wrong)
        else:
            self.check(rule, wrong)
            self.assertEqual(len(fall_of(rule, wrong)[0]), weight - (2 if wrong.deed == "put" else 0))

    def test_what_is_no_wrong(self):
        told = judge(FOUR)
        numbers = told.numbers
        wrong = [
            judge(THREE), Right(()), numbers, Wrong("put", told.once, None, numbers), Wrong("both", told.once, None, numbers),
            Wrong("take", None, told.once, numbers), Wrong("take", told.once, told.once, numbers),
            Wrong("take", ("light", "first"), None, numbers), Wrong("take", list(told.once), None, numbers),
            Wrong("take", told.once, None, list(numbers)), Wrong("take", told.once, None, (1, 4, 4)),
            Wrong("take", told.once, None, (1, 5)), Wrong("take", told.once, None, (1, 5, 3, 0)),
            Wrong("take", told.once, None, (True, 5, 3)), Wrong("take", told.once, None, None),
            judge(TryRule((2, 1))), judge(STICKY, "put"), Wrong(None, None, None, None),
        ]
        for value in [*any_values(), *wrong]:
            assert_raises(self, BadOther("wrong"), fall_of, FOUR, value)
            if not isinstance(value, (TryRule, TurnRule)):
                assert_raises(self, BadRule("rule"), fall_of, value, value)
        assert_raises(self, BadOther("wrong"), fall_of, THREE, told)
        self.assertEqual(fall_of(wrong=told, rule=FOUR)[1], 1)

    def test_later_changes_have_no_effect(self):
        told = judge(FOUR)
        one, key = fall_of(FOUR, told)
        one.drop(key)
        one.rule = THREE
        other, same_key = fall_of(FOUR, told)
        self.assertEqual((other.layout, same_key), told_fall(told))


if __name__ == "__main__":
    unittest.main()
