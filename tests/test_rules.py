"""Rules by weights: made, refused, compared, written, read, and asked."""

import unittest
from itertools import product

from evenrules.errors import BadNumber, BadRule, BadText, NoHalves
from evenrules.rules import Rule, TryRule, TurnRule, WeightRule
from helping import any_values, assert_raises, run_examples

EXAMPLES = """
>>> from evenrules.rules import Rule, TryRule, TurnRule, WeightRule
>>> three, four = TurnRule((3, 1), turn=(2, 1), turn_plus=-1), TurnRule((4, 1), turn=(2, 1), turn_plus=-1)
>>> [str(three), str(TryRule((5, 2), -1)), three(2, 6), three(2, 7), three.greatest(5), three.least(7), TryRule((5, 2), -1).greatest(3)]
['turn 3/1 0 2/1 -1', 'try 5/2 -1', True, False, 15, 3, 7]
>>> [three.turns(1, 3, 2, 2), three.turns(1, 4, 2, 2), TryRule((2, 1)).turns(1, 3, 2, 2), WeightRule.read("turn 4/1 0 2/1 -1") == four]
[1, 2, 2, True]
>>> TurnRule((3, 2), turn=(1, 1))
raises NoHalves(3)
>>> WeightRule.read("turn 4/1 0 2/1")
raises BadText(0, 4)
"""
SIXTY = 10 ** 60
NUMBERS = [(p, q, k) for p in range(1, 7) for q in range(1, p + 1) for k in range(-6, 7)]
FAIR = [(p, q, k) for p, q, k in NUMBERS if p + k >= 2 * q]


def try_rules():
    return [TryRule((p, q), k) for p, q, k in FAIR]


class MadeTest(unittest.TestCase):

    def test_examples(self):
        run_examples(self, EXAMPLES)

    def test_classes(self):
        self.assertEqual((WeightRule.__bases__, TurnRule.__bases__, TryRule.__bases__),
                         ((Rule,), (WeightRule,), (WeightRule,)))
        self.assertEqual((WeightRule.MOST, TryRule.MOST, TryRule((2, 1)).MOST), (6, 6, 6))
        for name in ("__call__", "greatest", "least", "read", "MOST"):
            self.assertIn(name, vars(WeightRule))
        for rule, name in product((TurnRule, TryRule), ("turns", "__eq__", "__str__", "__init__")):
            self.assertIn(name, vars(rule))

    def test_attributes(self):
        self.assertEqual(vars(TurnRule((5, 2), -1, turn=(8, 7), turn_plus=6)),
                         {"times": (5, 2), "plus": -1, "turn": (8, 7), "turn_plus": 6})
        self.assertEqual(vars(TurnRule((2, 1), turn=(1, 1))), {"times": (2, 1), "plus": 0, "turn": (1, 1), "turn_plus": 0})
        self.assertEqual(vars(TryRule(plus=3, times=(3, 2))), {"times": (3, 2), "plus": 3})
        self.assertEqual(vars(TryRule((4, 1))), {"times": (4, 1), "plus": 0})

    def test_halves(self):
        for p, q, k in NUMBERS:
            weight = 2 if q > p + k else 3 if not (2 * q <= p + k and q <= 2 * p + k) else None
            if weight is None:
                TryRule((p, q), k)
                TurnRule((p, q), k, turn=(1, 1))
            else:
                assert_raises(self, NoHalves(weight), TryRule, (p, q), k)
                assert_raises(self, NoHalves(weight), TurnRule, (p, q), k, turn=(1, 1))

    def test_halves_are_fair(self):
        for rule in try_rules():
            for weight in range(1, 60):
                self.assertTrue(rule(weight, weight) and rule(weight, weight + 1) and rule(weight + 1, weight))
                self.assertGreaterEqual(rule.greatest(weight), weight + 1)

    def test_wrong_times(self):
        wrong = [(0, 0), (1, 0), (1, 2), (7, 1), (7, 7), (-2, -3), (3, 1, 1), (3,), [3, 1], (3, True), (True, True),
                 ("3", "1"), (3, None), "31", 3]
        for value in [*any_values(), *wrong]:
            assert_raises(self, BadRule("times"), TryRule, value)
            assert_raises(self, BadRule("times"), TryRule, value, "x")
            assert_raises(self, BadRule("times"), TurnRule, value, None, turn=None, turn_plus=None)

    def test_wrong_plus(self):
        for value in [*any_values(), 7, -7, "1", True]:
            if value.__class__ is not int or not -6 <= value <= 6:
                assert_raises(self, BadRule("plus"), TryRule, (3, 1), value)
                assert_raises(self, BadRule("plus"), TryRule, (1, 1), value)
                assert_raises(self, BadRule("plus"), TurnRule, (1, 1), value, turn=None, turn_plus=None)

    def test_wrong_turn(self):
        for value in [*any_values(), (0, 1), (1, 0), (9, 1), (1, 9), [1, 1], (1, 1, 1), (1,), (True, 1), 1]:
            if value != (1, 2):
                assert_raises(self, BadRule("turn"), TurnRule, (1, 1), 0, turn=value, turn_plus=None)
        for value in product(range(1, 9), repeat=2):
            self.assertEqual(TurnRule((2, 1), turn=value).turn, value)

    def test_wrong_turn_plus(self):
        for value in [*any_values(), 7, -7, "1", True]:
            if value.__class__ is not int or not -6 <= value <= 6:
                assert_raises(self, BadRule("turn_plus"), TurnRule, (1, 1), 0, turn=(1, 1), turn_plus=value)

    def test_equal(self):
        rules = [TryRule((2, 1)), TryRule((4, 2)), TryRule((2, 1), 1), TurnRule((2, 1), turn=(1, 1)),
                 TurnRule((2, 1), 1, turn=(1, 1)), TurnRule((3, 1), turn=(1, 1)), TurnRule((2, 1), turn=(2, 1)),
                 TurnRule((2, 1), turn=(1, 2)), TurnRule((2, 1), turn=(1, 1), turn_plus=1)]
        for one, other in product(range(len(rules)), repeat=2):
            self.assertIs(rules[one] == WeightRule.read(str(rules[other])), one == other)
            self.assertIs(rules[one] != rules[other], one != other)
        for value in any_values():
            self.assertIs(rules[1] == value, False)
            self.assertIs(rules[4] == value, False)


class TextTest(unittest.TestCase):

    def test_texts(self):
        self.assertEqual(str(TryRule((6, 1), -4)), "try 6/1 -4")
        self.assertEqual(str(TurnRule((6, 5), 6, turn=(8, 7), turn_plus=-6)), "turn 6/5 6 8/7 -6")

    def test_texts_are_read(self):
        for p, q, k in FAIR:
            self.assertEqual(WeightRule.read(f"try {p}/{q} {k}"), TryRule((p, q), k))
            for turn in ((1, 1), (8, 3), (5, 8)):
                rule = TurnRule((p, q), k, turn=turn, turn_plus=-k)
                self.assertEqual(WeightRule.read(f"turn {p}/{q} {k} {turn[0]}/{turn[1]} {-k}"), rule)
                self.assertEqual(WeightRule.read(str(rule)), rule)

    def test_without_halves(self):
        for p, q, k in NUMBERS:
            if (p, q, k) not in FAIR:
                assert_raises(self, BadText(0, 1), WeightRule.read, f"try {p}/{q} {k}")
                assert_raises(self, BadText(0, 1), WeightRule.read, f"turn {p}/{q} {k} 1/1 0")
                assert_raises(self, BadText(0, 4), WeightRule.read, f"turn {p}/{q} {k} 1/1 7")
                assert_raises(self, BadText(0, 3), WeightRule.read, f"try {p}/{q} {k} 0")

    def test_wrong_texts(self):
        wrong = [
            ("", 0), (" ", 0), ("Try 3/1 0", 0), (" try 3/1 0", 0), ("fill 1/2 0 1 2", 0), ("try\n3/1 0", 0), ("tries", 0),
            ("try", 1), ("try ", 1), ("try 3", 1), ("try 3/", 1), ("try /1", 1), ("try 3/1/1", 1), ("try 03/1 0", 1),
            ("try +3/1 0", 1), ("try 3/-1 0", 1), ("try 1/2 0", 1), ("try 7/1 0", 1), ("try 3/0 0", 1), ("try 3 /1 0", 1),
            ("try  3/1 0", 1), ("try 3/1", 2), ("try 3/1 ", 2), ("try 3/1 x", 2), ("try 3/1 7", 2), ("try 3/1 -7", 2),
            ("try 3/1 -0", 2), ("try 3/1 00", 2), ("try 3/1 0/1", 2), ("try 3/1 0 ", 3), ("try 3/1 0 2/1 -1", 3),
            ("try 3/1 0\n", 2), ("turn", 1), ("turn 3/1", 2), ("turn 3/1 0", 3), ("turn 3/1 0 2/1", 4),
            ("turn 3/1 0 9/1 0", 3), ("turn 3/1 0 1/9 0", 3), ("turn 3/1 0 0/1 0", 3), ("turn 3/1 0 2 0", 3),
            ("turn 3/1 0 2/1 x", 4), ("turn 3/1 0 2/1 8", 4), ("turn 3/1 0 2/1 1/1", 4), ("turn 3/1 0 2/1 0 0", 5),
            ("turn 3/1 0 2/1 0 ", 5), ("turn 3 0 2/1 0", 1), ("turn 7/1 9 9/1 9", 1), ("turn 3/1 9 9/1 9", 2),
        ]
        for text, word in wrong:
            assert_raises(self, BadText(0, word), WeightRule.read, text)

    def test_no_texts(self):
        for value in any_values():
            assert_raises(self, BadText(0, 0), WeightRule.read, value)


class AskedTest(unittest.TestCase):

    def test_fair(self):
        for p, q, k in FAIR:
            rule = TryRule((p, q), k)
            for x, y in product(range(1, 16), repeat=2):
                fair = q * y <= p * x + k and q * x <= p * y + k
                self.assertIs(rule(x, y), fair)
                self.assertIs(max(x, y) <= rule.greatest(min(x, y)), fair)

    def test_greatest_and_least(self):
        for p, q, k in FAIR:
            for rule in (TryRule((p, q), k), TurnRule((p, q), k, turn=(1, 1))):
                for x in range(1, 30):
                    self.assertEqual(rule.greatest(x), max(y for y in range(1, 200) if rule(x, y)))
                    self.assertEqual(rule.least(x), min(y for y in range(1, 200) if rule(x, y)))

    def test_great_weights(self):
        rule = TryRule((5, 2), -1)
        self.assertEqual(rule.greatest(SIXTY), (5 * SIXTY - 1) // 2)
        self.assertEqual(rule.least(SIXTY), (2 * SIXTY + 1 + 4) // 5)
        self.assertIs(rule(SIXTY, rule.least(SIXTY)), True)
        self.assertIs(rule(rule.least(SIXTY) - 1, SIXTY), False)
        self.assertIs(rule(SIXTY, SIXTY), True)

    def test_wrong_weights(self):
        rule = TurnRule((3, 1), turn=(2, 1))
        for value in [*any_values(), 0, -1, SIXTY + 1, "3", 10 ** 69]:
            if value.__class__ is int and 1 <= value <= SIXTY:
                continue
            assert_raises(self, BadNumber(value), rule, value, 1)
            assert_raises(self, BadNumber(value), rule, 1, value)
            assert_raises(self, BadNumber(value), rule, value, None)
            assert_raises(self, BadNumber(value), rule.greatest, value)
            assert_raises(self, BadNumber(value), rule.least, value)

    def test_turns_of_a_turn_rule(self):
        for t, s, r in product((1, 2, 8), (1, 3, 8), (-6, -1, 0, 6)):
            rule = TurnRule((3, 1), turn=(t, s), turn_plus=r)
            for c, d in product(range(1, 12), repeat=2):
                wanted = 1 if s * c <= t * d + r else 2 if c > 1 else 0
                self.assertEqual(rule.turns(1, c, d, c // 2 if c > 1 else None), wanted)

    def test_a_turn_rule_is_stuck(self):
        rule = TurnRule((3, 1), turn=(1, 2), turn_plus=-6)
        self.assertEqual((rule.turns(1, 1, 7, None), rule.turns(1, 1, 8, None), rule.turns(1, 2, 7, 1)), (0, 1, 2))

    def test_turns_of_a_try_rule(self):
        for rule in (TryRule((2, 1)), TryRule((3, 1)), TryRule((5, 2), -1), TryRule((3, 2), 1), TryRule((1, 1), 1)):
            for a, c, d in product(range(1, 9), range(1, 9), range(1, 12)):
                for e in range(1, c) if c > 1 else (None,):
                    self.assertEqual(rule.turns(a, c, d, e), tries(rule, a, c, d, e))

    def test_turns_with_great_weights(self):
        rule = TurnRule((3, 1), turn=(2, 1))
        self.assertEqual(rule.turns(1, 2 * SIXTY, SIXTY, 1), 1)
        self.assertEqual(rule.turns(1, 2 * SIXTY + 1, SIXTY, 1), 2)
        rule = TryRule((3, 1))
        self.assertEqual(rule.turns(SIXTY, 3 * SIXTY, SIXTY + 1, SIXTY), 2)
        self.assertEqual(rule.turns(SIXTY, SIXTY, 2 * SIXTY + 1, 1), 1)


def tries(rule, a, c, d, e):
    """How often a try rule turns, by the words of point [5]."""
    if rule(a, c) and rule(a + c, d):
        return 1
    if c > 1 and rule(a, e) and rule(c - e, d) and rule(a + e, c - e + d):
        return 2
    return 1


if __name__ == "__main__":
    unittest.main()
