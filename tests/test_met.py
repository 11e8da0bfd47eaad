"""Which turns a rule ever asks for: the least weights found again, papers looked at, and what is refused."""

import unittest
from itertools import product

from breaking import heavy_weights, is_left_by
from evenrules.cases import cases, tests_of
from evenrules.errors import BadDeeds, BadNumber, BadRule
from evenrules.met import Met, Never, met, shows_met, tests_met
from evenrules.rules import TryRule, TurnRule, WeightRule
from evenrules.settled import Odd, Split, Sum, settled
from evenrules.straight import Test as StraightTest
from helping import any_values, assert_raises, is_right_paper, pairs, run_examples
from shaping import is_fair_pair
from test_judged import FAR, LATE, some_rules

EXAMPLES = """
>>> from evenrules.rules import TryRule, TurnRule
>>> from evenrules.met import Met, Never, met, shows_met, tests_met
>>> once = TurnRule((3, 1), turn=(2, 1), turn_plus=-1)
>>> [met(once, "put", 1) == Met(1, 1, 3), met(once, "put", 2) == Met(1, 3, 1), bool(met(TurnRule((2, 1), turn=(8, 1)), "take", 2))]
[True, True, False]
>>> [len(tests_met(once, "put", 1)), shows_met(once, "put", 1, Met(1, 2, 2)), shows_met(once, "put", 1, Met(1, 3, 1))]
[8, True, False]
"""
ONCE = TurnRule((3, 1), turn=(2, 1), turn_plus=-1)
NEVER = TurnRule((2, 1), turn=(8, 1))
# The least light weights of these are great, or the papers of these are long.
LATE_MET = ["turn 6/5 4 1/1 6", "turn 6/5 5 1/1 6", "turn 5/4 4 1/1 6", "turn 6/5 6 1/1 6"]
ASKED = list(product(("put", "take"), (1, 2)))


def turn_rules(seed, many):
    return [rule for rule in some_rules(seed, many) if isinstance(rule, TurnRule)]


def keeps(rule, deed, turns, a, c, d):
    """Whether these weights keep the tests, by the words of points [5] and [6]."""
    if min(a, c, d) < 1 or not is_left_by(rule, deed, a, c + d) or not is_fair_pair(rule, c, d):
        return False
    (t, s), r = rule.turn, rule.turn_plus
    return (s * c <= t * d + r) == (turns == 1)


def least_met(rule, deed, turns, most):
    """The least light, heavy and inner weights, found by going through all lesser ones; None if there are none."""
    for a in range(1, most + 1):
        for b in heavy_weights(rule, a):
            for c in range(1, b):
                if keeps(rule, deed, turns, a, c, b - c):
                    return a, c, b - c
    return None


class MetTest(unittest.TestCase):

    def test_examples(self):
        run_examples(self, EXAMPLES)

    def check(self, rule, deed, turns, most):
        """That the answer is the right one; returns it."""
        told = met(rule, deed, turns)
        self.assertIs(shows_met(rule, deed, turns, told), True)
        if told:
            self.assertIs(told.__class__, Met)
            numbers = (told.light, told.inner, told.outer)
            if told.light <= most:
                self.assertEqual(numbers, least_met(rule, deed, turns, most), str(rule))
            self.assertTrue(keeps(rule, deed, turns, *numbers))
        else:
            self.assertIs(told.__class__, Never)
            self.assertTrue(is_right_paper(pairs(tests_met(rule, deed, turns)), told.paper))
            self.assertIsNone(least_met(rule, deed, turns, 6))
        self.assertEqual(met(rule, deed, turns), told)
        return told

    def test_many_rules(self):
        kinds = {True: 0, False: 0}
        for rule in turn_rules(31, 350):
            for deed, turns in ASKED:
                kinds[bool(self.check(rule, deed, turns, 12))] += 1
        self.assertGreater(min(kinds.values()), 100)

    def test_great_least_weights(self):
        lights = set()
        for text in [*LATE_MET, *[text for text, _, _, _ in FAR], *LATE]:
            for deed, turns in ASKED:
                told = self.check(WeightRule.read(text), deed, turns, 60)
                lights.add(told.light if told else 0)
        self.assertGreater(max(lights), 50)

    def test_rules_that_never_turn_twice(self):
        # The inner side is at most twice as heavy as the outer one, and so is never more than t / s times.
        for t, s in ((8, 1), (6, 2), (8, 3), (5, 2)):
            rule = TurnRule((2, 1), turn=(t, s))
            for deed in ("put", "take"):
                self.assertIs(self.check(rule, deed, 2, 20).__class__, Never)
                self.assertIs(self.check(rule, deed, 1, 20).__class__, Met)

    def test_papers_of_all_kinds(self):
        kinds = set()
        for text in ("turn 2/1 0 8/1 0", "turn 2/2 2 8/8 0", "turn 5/2 0 7/3 3", "turn 2/2 2 1/1 0", "turn 6/6 6 1/1 5"):
            for deed, turns in ASKED:
                told = self.check(WeightRule.read(text), deed, turns, 20)
                if not told:
                    kinds.add(told.paper.__class__)
        for rule in turn_rules(32, 2500):
            for deed, turns in ASKED:
                told = met(rule, deed, turns)
                if not told and told.paper.__class__ not in kinds:
                    self.check(rule, deed, turns, 20)
                    kinds.add(told.paper.__class__)
        self.assertLessEqual({Sum, Split}, kinds)

    def test_what_a_deed_can_leave(self):
        # A put leaves the sides just one key further apart than fair ones are; a take of the lighter side leaves more.
        for rule in turn_rules(33, 60):
            for turns in (1, 2):
                put, take = met(rule, "put", turns), met(rule, "take", turns)
                if put:
                    self.assertLessEqual((take.light, take.inner + take.outer),
                                         (put.light, put.inner + put.outer))
                    self.assertEqual(put.inner + put.outer, rule.greatest(put.light) + 1)
                if take:
                    self.assertLessEqual(take.inner + take.outer, rule.greatest(take.light + 1))

    def test_stuck_deeds_ask_for_two_turns(self):
        rule = TurnRule((3, 1), turn=(1, 2), turn_plus=-6)
        told = met(rule, "put", 2)
        self.assertEqual((told, rule.turns(told.light, told.inner, told.outer, None)), (Met(1, 1, 3), 0))


class TestsTest(unittest.TestCase):

    def test_the_tests_one_by_one(self):
        for rule in turn_rules(34, 60):
            (p, q), k, (t, s), r = rule.times, rule.plus, rule.turn, rule.turn_plus
            for deed, turns in ASKED:
                gain = q if deed == "put" else p
                wanted = [((1, 0, 0), 1), ((0, 1, 0), 1), ((0, 0, 1), 1), ((-p, q, q), k + 1), ((p, -q, -q), -k - gain),
                          ((0, p, -q), -k), ((0, -q, p), -k), ((0, -s, t), -r) if turns == 1 else ((0, s, -t), r + 1)]
                told = tests_met(rule, deed, turns)
                self.assertIsInstance(told, tuple)
                self.assertEqual(list(told), [StraightTest(parts, bound) for parts, bound in wanted])
                self.assertEqual(tests_met(deed=deed, turns=turns, rule=rule), told)

    def test_cases_share_them(self):
        for rule in turn_rules(35, 20):
            for deed in ("put", "take"):
                for case in cases(rule, deed):
                    turns = 1 if case.twice is None else 2
                    tests = tests_of(rule, case)
                    if len(tests[0]) == 3:
                        self.assertEqual(tests[:-1], tests_met(rule, deed, turns))


class ShowsTest(unittest.TestCase):

    def test_weights_near_the_least_ones(self):
        counts = {True: 0, False: 0}
        for rule in turn_rules(36, 60):
            for deed, turns in ASKED:
                told = met(rule, deed, turns)
                a, c, d = (told.light, told.inner, told.outer) if told else (2, 3, 4)
                for numbers in product((a - 1, a, a + 1), (c - 1, c, c + 1, c + 2), (d - 1, d, d + 1)):
                    wanted = keeps(rule, deed, turns, *numbers)
                    self.assertIs(shows_met(rule, deed, turns, Met(*numbers)), wanted)
                    counts[wanted] += 1
        self.assertGreater(min(counts.values()), 300)

    def test_great_weights(self):
        great = 10 ** 69
        heavy = ONCE.times[0] * great + 1
        self.assertIs(shows_met(ONCE, "put", 1, Met(great, heavy // 4 + 1, heavy - heavy // 4 - 1)), True)
        self.assertIs(shows_met(ONCE, "put", 2, Met(great, heavy // 4 + 1, heavy - heavy // 4 - 1)), False)

    def test_near_papers(self):
        answer = met(NEVER, "take", 2)
        self.assertIs(shows_met(NEVER, "take", 2, answer), True)
        weights = answer.paper.weights
        for at in range(len(weights)):
            for by in (-1, 1):
                other = Sum((*weights[:at], weights[at] + by, *weights[at + 1:]))
                rows = pairs(tests_met(NEVER, "take", 2))
                self.assertIs(shows_met(NEVER, "take", 2, Never(other)), is_right_paper(rows, other))
        for paper in (Sum(weights[:-1]), Sum((*weights, 0)), Sum(list(weights)), Odd(weights, 2), Split(0, weights, ()),
                      Sum((True, *weights[1:])), weights, answer, None):
            self.assertIs(shows_met(NEVER, "take", 2, Never(paper)), False)
        doubled = Sum(tuple(2 * weight for weight in weights))
        self.assertIs(shows_met(NEVER, "take", 2, Never(doubled)), True)
        # What shows that a take never leads to two turns shows this for a put, but not for one turn.
        self.assertIs(shows_met(NEVER, "put", 2, answer), True)
        self.assertIs(shows_met(NEVER, "take", 1, answer), False)
        self.assertIs(shows_met(ONCE, "take", 2, answer), False)
        self.assertIs(shows_met(NEVER, "take", 2, answer.paper), False)

    def test_papers_that_settled_makes(self):
        for rule in turn_rules(37, 120):
            for deed, turns in ASKED:
                paper = settled(tests_met(rule, deed, turns))
                self.assertIs(shows_met(rule, deed, turns, Never(paper)), not met(rule, deed, turns))

    def test_values_of_all_kinds(self):
        for value in any_values():
            for deed, turns in ASKED:
                told = shows_met(ONCE, deed, turns, value)
                self.assertIs(told, value == Met(1, 1, 3) and turns == 1)
                self.assertIs(shows_met(ONCE, deed, turns, Never(value)), False)
                self.assertIs(shows_met(ONCE, deed, turns, Met(value, 1, 3)),
                              value.__class__ is int and keeps(ONCE, deed, turns, value, 1, 3))
                self.assertIs(shows_met(ONCE, deed, turns, Met(1, value, 3)),
                              value.__class__ is int and keeps(ONCE, deed, turns, 1, value, 3))
                self.assertIs(shows_met(ONCE, deed, turns, Met(1, 2, value)),
                              value.__class__ is int and keeps(ONCE, deed, turns, 1, 2, value))
        self.assertIs(shows_met(ONCE, "put", 1, Met(True, 1, 3)), False)
        self.assertIs(shows_met(ONCE, "put", 1, Met(1, True, 3)), False)
        self.assertIs(shows_met(value=Met(1, 1, 3), turns=1, deed="put", rule=ONCE), True)


class ErrorsTest(unittest.TestCase):

    def test_errors_in_their_order(self):
        actions = (met, tests_met, lambda *asked: shows_met(*asked, None), lambda *asked: shows_met(*asked, Met(1, 1, 3)))
        for action in actions:
            for value in [*any_values(), 3, "both", TryRule((3, 1)), 1.0]:
                if not isinstance(value, TurnRule):
                    assert_raises(self, BadRule("rule"), action, value, "put", 1)
                    assert_raises(self, BadRule("rule"), action, value, value, value)
                assert_raises(self, BadDeeds(value), action, ONCE, value, 1)
                assert_raises(self, BadDeeds(value), action, ONCE, value, value)
                if not (value.__class__ is int and value in (1, 2)):
                    assert_raises(self, BadNumber(value), action, ONCE, "take", value)
            for turns in (True, False, 0, 3, -1, "1", (1,), None):
                assert_raises(self, BadNumber(turns), action, ONCE, "put", turns)


if __name__ == "__main__":
    unittest.main()
