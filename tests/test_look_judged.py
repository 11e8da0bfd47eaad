"""The looker for verdicts: those of `judge`, near ones, and values of all kinds."""

import random
import unittest

from breaking import breaks_of, heavy_weights, is_left_by, least_break, numbers_of_case
from evenrules.cases import Case, cases, tests_of
from evenrules.errors import BadDeeds, BadRule
from evenrules.judged import From, Right, Wrong, breaks, judge
from evenrules.look_judged import shows_judged
from evenrules.rules import TryRule, TurnRule, WeightRule
from evenrules.settled import Odd, Point, Split, Sum, settled, top_of
from evenrules.straight import Test as StraightTest
from helping import any_values, assert_raises, is_right_paper, pairs
from test_judged import EDGES, FAR, FOUR, LATE, RIGHT, THREE, deeds_of, some_rules

DEEDS = ("put", "take", "both")
STICKY = TurnRule((3, 1), turn=(1, 2), turn_plus=-6)


def told_cases(rule, deeds):
    return [case for deed in deeds_of(deeds) for case in cases(rule, deed)]


def is_right(rule, deeds, value):
    """Whether a Right is right, word by word, for a rule that is known to break nowhere, or else at small weights."""
    told, papers = told_cases(rule, deeds), value.papers
    if not isinstance(papers, tuple) or len(papers) != len(told):
        return False
    for case, paper in zip(told, papers):
        if not isinstance(paper, From) or paper.weight.__class__ is not int or not 1 <= paper.weight <= 20000:
            return False
        tests = list(tests_of(rule, case))
        rows = pairs([*tests, StraightTest([1] + [0] * (len(tests[0]) - 1), paper.weight)])
        if not is_right_paper(rows, paper.paper):
            return False
    most = max(paper.weight for paper in papers)
    return least_break(rule, deeds_of(deeds), min(most - 1, 6)) is None


class RightTest(unittest.TestCase):

    def test_what_is_told(self):
        rules = [*some_rules(41, 150), *[WeightRule.read(text) for text in RIGHT + LATE + EDGES]]
        kinds = {True: 0, False: 0}
        for rule in rules:
            for deeds in DEEDS:
                told = judge(rule, deeds)
                self.assertIs(shows_judged(rule, deeds, told), True)
                kinds[bool(told)] += 1
        self.assertGreater(min(kinds.values()), 40)
        self.assertIs(shows_judged(value=judge(THREE), deeds="both", rule=THREE), True)

    def test_all_right_try_rules(self):
        for p, q, k in [(3, 1, 0), (5, 2, -1), (4, 1, 6), (6, 2, 6), (5, 1, 6), (6, 1, -4)]:
            rule = TryRule((p, q), k)
            for deeds in DEEDS:
                self.assertIs(shows_judged(rule, deeds, judge(rule, deeds)), True)

    def near(self, told, deeds):
        """Verdicts that differ a little from a Right."""
        papers = told.papers
        for at in (0, len(papers) // 2, len(papers) - 1):
            paper = papers[at]
            for other in (From(paper.weight + 1, paper.paper), From(paper.weight - 1, paper.paper),
                          From(20000, paper.paper), From(20001, paper.paper), From(0, paper.paper), From(True, paper.paper),
                          From(1, paper.paper), From(paper.weight, None), From(paper.weight, papers[at - 1].paper),
                          From(str(paper.weight), paper.paper), From(paper.weight, paper), paper.paper, None,
                          From(paper.weight, changed(paper.paper)), From(paper.weight, Point((1, 1, 1))), papers[at - 1]):
                yield Right((*papers[:at], other, *papers[at + 1:]))
            yield Right((*papers[:at], *papers[at + 1:]))
            yield Right((*papers[:at + 1], *papers[at:]))
        yield Right(list(papers))
        yield Right(papers[::-1])
        yield Right(papers + papers)
        yield Right(())
        yield Right(papers[0])
        if deeds == "both":
            half = len(papers) // 2
            for other in (papers[:half], papers[half:], papers[half:] + papers[:half]):
                yield Right(other)

    def test_near_ones(self):
        counts = {True: 0, False: 0}
        for text in [RIGHT[0], RIGHT[2], "try 3/1 0", *LATE[:2], EDGES[0]]:
            rule = WeightRule.read(text)
            for deeds in DEEDS:
                for other in self.near(judge(rule, deeds), deeds):
                    wanted = is_right(rule, deeds, other)
                    self.assertIs(shows_judged(rule, deeds, other), wanted)
                    counts[wanted] += 1
        self.assertGreater(min(counts.values()), 60)

    def test_weights_more_or_less(self):
        for text in LATE:
            rule = WeightRule.read(text)
            told = judge(rule)
            for at, paper in enumerate(told.papers):
                for weight in (paper.weight - 1, paper.weight, paper.weight + 1, paper.weight + 70, 19999, 20000, 20001):
                    other = Right((*told.papers[:at], From(weight, paper.paper), *told.papers[at + 1:]))
                    self.assertIs(shows_judged(rule, "both", other), is_right(rule, "both", other))

    def test_papers_of_settled(self):
        # Any paper will do: these are made in another way.
        for text in (RIGHT[1], "try 5/2 -1", EDGES[1], LATE[0]):
            rule = WeightRule.read(text)
            papers = []
            for case in told_cases(rule, "take"):
                tests = tests_of(rule, case)
                weight = next(weight for weight in (1, 2, 5, 20, 100)
                              if not isinstance(settled(with_weight(tests, weight)), Point))
                papers.append(From(weight, settled(with_weight(tests, weight))))
            self.assertIs(shows_judged(rule, "take", Right(tuple(papers))), True)

    def test_rules_that_break_below_the_weights(self):
        # From some weight on papers show that no whole numbers keep the tests. But the rule breaks ahead of it.
        seen = 0
        for rule in [FOUR, STICKY, TryRule((2, 1)), *some_rules(42, 200)]:
            for deeds in ("put", "take", "both"):
                papers = [self.paper_from_somewhere(rule, case) for case in told_cases(rule, deeds)]
                if None in papers:
                    continue
                told = judge(rule, deeds)
                self.assertIs(shows_judged(rule, deeds, Right(tuple(papers))), bool(told))
                if not told:
                    seen += 1
                    self.assertGreater(max(paper.weight for paper in papers), told.numbers[0])
        self.assertGreater(seen, 10)

    def paper_from_somewhere(self, rule, case):
        tests = tests_of(rule, case)
        top = top_of(tests, 0)
        if isinstance(top, Sum):
            return From(1, Sum((*top.weights, 0)))
        if top is None:
            return None
        return From(top.high // top.low + 1, Sum((*top.weights, top.low)))

    def test_verdicts_of_other_rules_and_deeds(self):
        rules = [WeightRule.read(text) for text in RIGHT[:4] + EDGES[:2] + LATE[:1]]
        told = {(at, deeds): judge(rule, deeds) for at, rule in enumerate(rules) for deeds in DEEDS}
        for one, rule in enumerate(rules):
            for deeds in DEEDS:
                for (_, other_deeds), value in told.items():
                    self.assertIs(shows_judged(rule, deeds, value), is_right(rule, deeds, value))
                self.assertIs(shows_judged(rule, deeds, told[one, deeds]), True)
                if deeds != "both":
                    self.assertIs(shows_judged(rule, "both", told[one, deeds]), False)
                    self.assertIs(shows_judged(rule, deeds, told[one, "both"]), False)

    def test_rules_with_other_numbers_for_the_same_weights(self):
        for one, other in ((TryRule((2, 2), 2), TryRule((3, 3), 3)), (TryRule((4, 2), 1), TryRule((2, 1)))):
            self.assertEqual([judge(one, deeds).__class__ for deeds in DEEDS],
                             [judge(other, deeds).__class__ for deeds in DEEDS])
            for deeds in DEEDS:
                told = judge(one, deeds)
                if not told:
                    self.assertEqual(told, judge(other, deeds))
                    self.assertIs(shows_judged(other, deeds, told), True)


def changed(paper):
    """A paper with one weight more."""
    if isinstance(paper, Sum):
        return Sum((paper.weights[0] + 1, *paper.weights[1:]))
    if isinstance(paper, Odd):
        return Odd(paper.weights, paper.divisor + 1)
    return Split(paper.at, paper.weights, paper.papers[1:])


def with_weight(tests, weight):
    return [*tests, StraightTest([1] + [0] * (len(tests[0]) - 1), weight)]


class WrongTest(unittest.TestCase):

    def test_what_is_told_and_near_it(self):
        counts = {True: 0, False: 0}
        random.seed(43)
        for rule in [FOUR, STICKY, *some_rules(44, 120), *[WeightRule.read(text) for text, _, _, _ in FAR]]:
            for deeds in DEEDS:
                told = judge(rule, deeds)
                if told:
                    continue
                self.assertIs(shows_judged(rule, deeds, told), True)
                deed, once, twice, numbers = vars(told).values()
                for other in DEEDS:
                    self.check(rule, other, told, counts)
                    self.check(rule, other, Wrong({"put": "take", "take": "put"}[deed], once, twice, numbers), counts)
                for case in told_cases(rule, "both"):
                    self.check(rule, deeds, Wrong(case.deed, case.once, case.twice, numbers), counts)
                for at in range(len(numbers)):
                    for by in (-1, 1):
                        near = (*numbers[:at], numbers[at] + by, *numbers[at + 1:])
                        self.check(rule, deeds, Wrong(deed, once, twice, near), counts)
        self.assertGreater(min(counts.values()), 300)

    def check(self, rule, deeds, wrong, counts):
        wanted = is_right_wrong(rule, deeds, wrong)
        self.assertIs(shows_judged(rule, deeds, wrong), wanted)
        counts[wanted] += 1

    def test_numbers_that_are_not_the_least(self):
        many = 0
        for rule in [FOUR, STICKY, TryRule((2, 1)), *some_rules(45, 20)]:
            for light in (2, 3, 5):
                for heavy in heavy_weights(rule, light):
                    for deed in ("put", "take"):
                        for once, twice in breaks_of(rule):
                            if not is_left_by(rule, deed, light, heavy):
                                continue
                            for numbers in list(numbers_of_case(rule, once, twice, light, heavy))[:4]:
                                wrong = Wrong(deed, once, twice, numbers)
                                self.assertIs(shows_judged(rule, deed, wrong), True)
                                self.assertIs(shows_judged(rule, "both", wrong), True)
                                many += 1
        self.assertGreater(many, 100)

    def test_great_numbers(self):
        great = 10 ** 12
        rule, light = TryRule((2, 1)), great // 3
        wrong = breaks(rule, "take", light, 2 * light + 2)
        self.assertIs(shows_judged(rule, "take", wrong), True)
        self.assertIs(shows_judged(rule, "put", wrong), False)
        self.assertIs(shows_judged(FOUR, "take", Wrong("take", ("light", "second"), None, (10 ** 69,) * 3)), False)

    def test_kinds(self):
        told = judge(FOUR)
        deed, once, twice, numbers = vars(told).values()
        for other in (Wrong([deed], once, twice, numbers), Wrong(deed, list(once), twice, numbers),
                      Wrong(deed, once, (), numbers), Wrong(deed, once, False, numbers), Wrong(deed, once, twice, list(numbers)),
                      Wrong(deed, once, twice, (True, 5, 3)), Wrong(deed, once, twice, (1, 5, "3")), Wrong(deed, once, once, numbers),
                      Wrong("both", once, twice, numbers), Wrong(deed, None, None, numbers), Wrong(deed, once, twice, None)):
            self.assertIs(shows_judged(FOUR, "both", other), False)
        for value in any_values():
            parts = (deed, once, twice, numbers)
            for at in range(4):
                self.assertIs(shows_judged(FOUR, "both", Wrong(*parts[:at], value, *parts[at + 1:])),
                              at == 2 and value is None)


def is_right_wrong(rule, deeds, wrong):
    """Whether a Wrong is right, by the words of point [6]."""
    case = Case(wrong.deed, wrong.once, wrong.twice)
    if case not in told_cases(rule, deeds):
        return False
    return all(test(wrong.numbers) for test in tests_of(rule, case)) if right_length(case, wrong.numbers) else False


def right_length(case, numbers):
    return len(numbers) == (3 if case.twice is None or case.twice[0] == "inner" else 4)


class AnyTest(unittest.TestCase):

    def test_values_of_all_kinds(self):
        for value in any_values():
            for rule in (THREE, FOUR, TryRule((3, 1))):
                for deeds in DEEDS:
                    self.assertIs(shows_judged(rule, deeds, value), False)
                    self.assertIs(shows_judged(rule, deeds, Right(value)), False)
        told = judge(THREE)
        for value in any_values():
            for at in (0, 21):
                other = Right((*told.papers[:at], value, *told.papers[at + 1:]))
                self.assertIs(shows_judged(THREE, "both", other), False)
                other = Right((*told.papers[:at], From(1, value), *told.papers[at + 1:]))
                self.assertIs(shows_judged(THREE, "both", other), is_right(THREE, "both", other))

    def test_errors_in_their_order(self):
        for value in [*any_values(), "puts", "Both", ("put",)]:
            if not isinstance(value, (TurnRule, TryRule)):
                assert_raises(self, BadRule("rule"), shows_judged, value, "both", None)
                assert_raises(self, BadRule("rule"), shows_judged, value, value, judge(THREE))
            assert_raises(self, BadDeeds(value), shows_judged, THREE, value, judge(THREE))
            assert_raises(self, BadDeeds(value), shows_judged, THREE, value, value)


if __name__ == "__main__":
    unittest.main()
