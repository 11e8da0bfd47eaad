"""The looker for rules compared: right answers, near ones, values of all kinds, and what is no rule."""

import unittest
from itertools import product

from evenrules.errors import BadRule
from evenrules.look_within import shows_within
from evenrules.rules import TryRule, TurnRule
from evenrules.settled import Odd, Point, Split, Sum
from evenrules.within import Parted, Within, tests_within, within
from helping import any_values, assert_raises, is_right_paper, pairs, run_examples

EXAMPLES = """
>>> from evenrules.look_within import shows_within
>>> from evenrules.rules import TryRule, TurnRule
>>> from evenrules.within import Parted, Within, same_trees, tests_within, within
>>> thrice, less = TryRule((3, 1)), TryRule((5, 2))
>>> [bool(within(less, thrice)), within(thrice, less) == Parted(1, 3), [str(test) for test in tests_within(less, thrice)]]
[True, True, ['1 0 >= 1', '5 -2 >= 0', '-3 1 >= 1']]
>>> [same_trees(TryRule((4, 2), 1), TryRule((2, 1))), same_trees(thrice, TurnRule((3, 1), turn=(2, 1))), shows_within(thrice, less, Parted(3, 8))]
[True, True, True]
"""
NUMBERS = [(p, q, k) for p in range(1, 7) for q in range(1, p + 1) for k in range(-6, 7) if p + k >= 2 * q]
RULES = [TryRule((p, q), k) if (p + q + k) % 2 else TurnRule((p, q), k, turn=(2, 1), turn_plus=k) for p, q, k in NUMBERS]
SIXTY = 10 ** 60


def is_fair(rule, x, y):
    """Whether two weights are fair, by the words of point [4]."""
    (p, q), k = rule.times, rule.plus
    return q * y <= p * x + k and q * x <= p * y + k


class ShownTest(unittest.TestCase):

    def test_examples(self):
        run_examples(self, EXAMPLES)

    def test_what_within_says(self):
        many = [0, 0]
        for one, other in product(RULES[::3], RULES[::4]):
            answer = within(one, other)
            self.assertIs(shows_within(one, other, answer), True)
            many[bool(answer)] += 1
        self.assertGreater(min(many), 100)

    def test_papers_of_other_pairs(self):
        papers = [(one, other, within(one, other)) for one, other in product(RULES[::13], repeat=2)]
        shown = [answer for _, _, answer in papers if answer][::3]
        self.assertGreater(len(shown), 8)
        for one, other, _ in papers:
            rows = pairs(tests_within(one, other))
            for answer in shown:
                self.assertIs(shows_within(one, other, answer), is_right_paper(rows, answer.paper))

    def test_near_papers(self):
        for one, other in product(RULES[::9], RULES[::11]):
            answer = within(one, other)
            if not answer:
                continue
            rows, paper = pairs(tests_within(one, other)), answer.paper
            for near in self.near(paper):
                self.assertIs(shows_within(one, other, Within(near)), is_right_paper(rows, near))
            if isinstance(paper, Sum):
                self.assertIs(shows_within(one, other, Within(Sum(tuple(7 * weight for weight in paper.weights)))), True)

    def near(self, paper):
        """Papers that differ from this one in one place."""
        for at, change in product(range(len(paper.weights)), (1, -1)):
            weights = (*paper.weights[:at], paper.weights[at] + change, *paper.weights[at + 1:])
            yield Sum(weights)
            if isinstance(paper, Split):
                yield Split(paper.at, weights, paper.papers)
        yield from (Sum(list(paper.weights)), Sum(paper.weights[:-1]), Odd(paper.weights, 2), Split(0, paper.weights, ()))
        if isinstance(paper, Split):
            yield Split(paper.at, tuple(2 * weight for weight in paper.weights), paper.papers)
            yield from (Split((paper.at + 1) % 3, paper.weights, paper.papers),
                        Split(paper.at, paper.weights, paper.papers[1:]),
                        Split(paper.at, paper.weights, (*paper.papers, paper.papers[0])))

    def test_papers_that_are_splits(self):
        # 3 * y <= 4 * x + 2 tells no more than y <= (4 * x + 2) / 3 rounded down: no sum shows that alone.
        kinds = {within(one, other).paper.__class__ for one, other in product(RULES, repeat=2) if within(one, other)}
        self.assertIn(Sum, kinds)
        self.assertIn(Split, kinds)

    def test_parted(self):
        for one, other in product(RULES[::7], RULES[::8]):
            for light, heavy in product(range(-1, 9), range(-1, 20)):
                right = light >= 1 and heavy >= 1 and is_fair(one, light, heavy) and not is_fair(other, light, heavy)
                self.assertIs(shows_within(one, other, Parted(light, heavy)), right)
                self.assertIs(shows_within(one, other, Parted(heavy, light)), right)

    def test_parted_by_great_weights(self):
        one, other = TryRule((3, 1)), TryRule((5, 2))
        third = SIXTY // 3 + 1
        self.assertIs(shows_within(one, other, Parted(third, SIXTY)), True)
        self.assertIs(shows_within(one, other, Parted(SIXTY, third)), True)
        self.assertIs(shows_within(one, other, Parted(third - 1, SIXTY)), False)
        self.assertIs(shows_within(one, other, Parted(third, SIXTY + 1)), False)
        self.assertIs(shows_within(one, other, Parted(SIXTY + 1, third + 1)), False)
        self.assertIs(shows_within(one, other, Parted(3 * SIXTY, SIXTY)), False)
        self.assertIs(shows_within(one, other, Parted(10 ** 69, 10 ** 69)), False)
        self.assertIs(shows_within(one, other, Parted(0, 0)), False)

    def test_values_of_all_kinds(self):
        one, other = TryRule((3, 1)), TryRule((5, 2))
        for value in [*any_values(), within(other, one), Point((1, 3)), (1, 3), within(other, one).paper]:
            self.assertIs(shows_within(one, other, value), isinstance(value, Parted))
            self.assertIs(shows_within(other, one, value), value == within(other, one))
            self.assertIs(shows_within(one, other, Parted(value, 3)), value.__class__ is int and value == 1)
            self.assertIs(shows_within(one, other, Parted(1, value)), False)
            self.assertIs(shows_within(other, one, Within(value)),
                          value.__class__ is Sum and is_right_paper(pairs(tests_within(other, one)), value))
        self.assertIs(shows_within(one, other, Parted(True, 3)), False)
        self.assertIs(shows_within(one, other, Within(Parted(1, 3))), False)

    def test_no_rules(self):
        rule = TryRule((2, 1))
        for value in any_values():
            if not isinstance(value, (TryRule, TurnRule)):
                assert_raises(self, BadRule("one"), shows_within, value, rule, Parted(1, 3))
                assert_raises(self, BadRule("one"), shows_within, value, value, None)
                assert_raises(self, BadRule("other"), shows_within, rule, value, value)
                assert_raises(self, BadRule("other"), shows_within, value=None, other=value, one=rule)


if __name__ == "__main__":
    unittest.main()
