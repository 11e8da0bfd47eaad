"""Rules compared: within, parted, the same trees."""

import unittest
from itertools import product

from evenrules.errors import BadRule
from evenrules.look_settled import shows_none
from evenrules.rules import TryRule, TurnRule
from evenrules.straight import Test as StraightTest
from evenrules.within import Parted, Within, same_trees, tests_within, within
from helping import any_values, assert_raises, is_right_paper, pairs, run_examples

# Without the function of another module in the last line.
EXAMPLES = """
>>> from evenrules.rules import TryRule, TurnRule
>>> from evenrules.within import Parted, Within, same_trees, tests_within, within
>>> thrice, less = TryRule((3, 1)), TryRule((5, 2))
>>> [bool(within(less, thrice)), within(thrice, less) == Parted(1, 3), [str(test) for test in tests_within(less, thrice)]]
[True, True, ['1 0 >= 1', '5 -2 >= 0', '-3 1 >= 1']]
>>> [same_trees(TryRule((4, 2), 1), TryRule((2, 1))), same_trees(thrice, TurnRule((3, 1), turn=(2, 1)))]
[True, True]
"""
RULES = [TryRule((p, q), k) for p in range(1, 7) for q in range(1, p + 1) for k in range(-6, 7) if p + k >= 2 * q]


class WithinTest(unittest.TestCase):

    def test_examples(self):
        run_examples(self, EXAMPLES)

    def check(self, one, other):
        answer = within(one, other)
        self.assertEqual(within(one, other), answer)
        light = next((x for x in range(1, 1000) if one.greatest(x) > other.greatest(x)), None)
        if light is None:
            self.assertIs(answer.__class__, Within)
            self.assertIs(bool(answer), True)
            tests = tests_within(one, other)
            self.assertTrue(is_right_paper(pairs(tests), answer.paper))
            self.assertTrue(shows_none(tests, answer.paper))
        else:
            self.assertIs(bool(answer), False)
            self.assertEqual(answer, Parted(light, other.greatest(light) + 1))
            self.assertTrue(one(answer.light, answer.heavy))
            self.assertFalse(other(answer.light, answer.heavy))
        return answer

    def test_pairs_of_rules(self):
        for one, other in product(RULES[::4], RULES[::3]):
            self.check(one, other)

    def test_a_rule_is_within_itself(self):
        for rule in RULES:
            self.assertTrue(self.check(rule, rule))
            self.assertIs(same_trees(rule, rule), True)

    def test_far_off_weights(self):
        self.assertEqual(self.check(TryRule((6, 5), 6), TryRule((1, 1), 6)), Parted(29, 36))
        self.assertEqual(self.check(TryRule((6, 5), 4), TryRule((1, 1), 6)), Parted(31, 38))

    def test_tests(self):
        tests = tests_within(TurnRule((5, 2), -1, turn=(1, 1)), TryRule((6, 4), 3))
        self.assertIsInstance(tests, tuple)
        self.assertEqual(list(tests), [StraightTest((1, 0), 1), StraightTest((5, -2), 1), StraightTest((-6, 4), 4)])

    def test_the_tests_tell_the_weights(self):
        for one, other in product(RULES[::17], repeat=2):
            tests = tests_within(one, other)
            for x, y in product(range(1, 12), range(1, 40)):
                hold = all(test((x, y)) for test in tests)
                self.assertIs(hold, other.greatest(x) < y <= one.greatest(x))
            self.assertFalse(tests[0]((0, 5)))

    def test_same_trees(self):
        for one, other in product(RULES[::5], RULES[::2]):
            same = all(one.greatest(x) == other.greatest(x) for x in range(1, 200))
            self.assertIs(same_trees(one, other), same)

    def test_turns_do_not_count(self):
        one, other = TurnRule((3, 1), turn=(2, 1)), TurnRule((3, 1), turn=(8, 1), turn_plus=6)
        self.assertTrue(within(one, other))
        self.assertIs(same_trees(one, other), True)
        self.assertIs(same_trees(one, TurnRule((3, 1), 1, turn=(2, 1))), False)

    def test_wrong_rules(self):
        rule = TryRule((2, 1))
        for action in (within, tests_within, same_trees):
            for value in any_values():
                if not isinstance(value, (TryRule, TurnRule)):
                    assert_raises(self, BadRule("one"), action, value, rule)
                    assert_raises(self, BadRule("one"), action, value, value)
                    assert_raises(self, BadRule("other"), action, rule, value)
                    assert_raises(self, BadRule("other"), action, other=value, one=rule)


if __name__ == "__main__":
    unittest.main()
