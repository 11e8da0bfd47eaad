"""Rules judged: the papers of a Right looked at again, the numbers of a Wrong found by going through all lesser ones."""

import random
import unittest

import playing
from breaking import first_break, heavy_weights, least_break
from evenrules.cases import Case, cases, numbers_break, tests_of
from evenrules.errors import BadDeeds, BadNumber, BadRule
from evenrules.judged import From, Right, Wrong, breaks, judge
from evenrules.look_settled import shows_none
from evenrules.rules import TryRule, TurnRule, WeightRule
from evenrules.settled import Point, Split, settled
from evenrules.straight import Test as StraightTest
from helping import any_values, assert_raises, how_many, is_right_paper, pairs, run_examples
from shaping import all_shapes

EXAMPLES = """
>>> from evenrules.rules import Rule, TryRule, TurnRule, WeightRule
>>> three, four = TurnRule((3, 1), turn=(2, 1), turn_plus=-1), TurnRule((4, 1), turn=(2, 1), turn_plus=-1)
>>> from evenrules.falls import fall_of
>>> from evenrules.judged import From, Right, Wrong, breaks, judge
>>> told = judge(four)
>>> [bool(told), told.deed, told.once, told.twice, told.numbers]
[False, 'take', ('light', 'second'), None, (1, 5, 3)]
>>> tree, key = fall_of(four, told)
>>> [tree.layout[:2], key, tree.unfair(), tree.drop(key), tree.unfair()]
[(((), 1, ()), 2), 1, (), None, (2,)]
>>> [bool(judge(three)), len(judge(three).papers), breaks(four, "take", 1, 7), breaks(four, "put", 1, 5)]
[True, 22, None, None]
>>> bool(judge(TurnRule((3, 1), turn=(3, 1), turn_plus=6), "put"))
False
"""
FAIR = [(p, q, k) for p in range(1, 7) for q in range(1, p + 1) for k in range(-6, 7) if p + k >= 2 * q]
THREE, FOUR = WeightRule.read("turn 3/1 0 2/1 -1"), WeightRule.read("turn 4/1 0 2/1 -1")
# Fractions keep a case of these at any weight: their papers need splits.
EDGES = ["turn 5/2 -1 7/5 -5", "turn 5/2 1 7/5 -6", "turn 6/2 -2 4/3 -3", "turn 6/2 0 8/6 -6", "turn 6/2 5 4/3 -6",
         "turn 6/2 -2 8/6 -5"]
# Right ones that have no whole numbers from some weight on, but fractions below it.
LATE = ["turn 6/2 -2 7/5 -6", "turn 5/2 5 3/2 -6", "turn 5/2 1 3/2 -4"]
RIGHT = ["turn 3/1 0 2/1 -1", "turn 4/1 4 7/4 -2", "turn 5/2 2 6/4 0", "try 3/1 0", "try 5/2 -1", "try 4/1 6", "try 6/2 6"]
# The least weights of the lighter sides at which these break are great.
FAR = [("turn 5/2 6 4/3 6", "take", "both", (65, 70, 27, 71)), ("turn 5/2 6 4/3 6", "put", "put", (78, 83, 32, 84)),
       ("turn 5/2 4 4/3 5", "put", "put", (68, 72, 28, 73)), ("turn 5/2 4 4/3 5", "take", "take", (55, 59, 23, 60)),
       ("turn 5/2 5 4/3 6", "put", "both", (63, 67, 26, 68)), ("turn 5/2 5 4/3 6", "take", "take", (63, 67, 26, 68))]


def some_rules(seed, many):
    """Rules of both kinds."""
    random.seed(seed)
    for _ in range(many):
        p, q, k = random.choice(FAIR)
        if random.random() < 0.25:
            yield TryRule((p, q), k)
        else:
            yield TurnRule((p, q), k, turn=(random.randint(1, 8), random.randint(1, 8)), turn_plus=random.randint(-6, 6))


def deeds_of(deeds):
    return ("put", "take") if deeds == "both" else (deeds,)


def told_of(wrong):
    return wrong.deed, wrong.once, wrong.twice, wrong.numbers


class RightTest(unittest.TestCase):

    def test_examples(self):
        run_examples(self, EXAMPLES)

    def check(self, rule, deeds, answer):
        """That the papers of a Right show it; returns how many papers the longest one has."""
        self.assertIs(answer.__class__, Right)
        self.assertIs(bool(answer), True)
        told = [case for deed in deeds_of(deeds) for case in cases(rule, deed)]
        self.assertIsInstance(answer.papers, tuple)
        self.assertEqual(len(answer.papers), len(told))
        for case, paper in zip(told, answer.papers):
            self.assertIs(paper.__class__, From)
            self.assertTrue(paper.weight.__class__ is int and 1 <= paper.weight <= 20000)
            tests = list(tests_of(rule, case))
            tests.append(StraightTest([1] + [0] * (len(tests[0]) - 1), paper.weight))
            self.assertIs(shows_none(tests, paper.paper), True)
            self.assertTrue(is_right_paper(pairs(tests), paper.paper))
        most = max(paper.weight for paper in answer.papers)
        self.assertIsNone(least_break(rule, deeds_of(deeds), max(most - 1, 3)))
        return max(how_many(paper.paper) for paper in answer.papers)

    def test_right_rules(self):
        for text in RIGHT + LATE:
            for deeds in ("put", "take", "both"):
                rule = WeightRule.read(text)
                self.check(rule, deeds, judge(rule, deeds))
                self.assertEqual(judge(rule, deeds), judge(WeightRule.read(text), deeds))
        self.assertEqual(judge(THREE), judge(THREE, "both"))
        self.assertEqual(judge(deeds="put", rule=THREE), judge(THREE, "put"))
        self.assertNotEqual(judge(THREE, "put"), judge(THREE, "take"))

    def test_rules_just_on_the_edge(self):
        for text in EDGES:
            rule = WeightRule.read(text)
            answer = judge(rule)
            self.assertGreater(self.check(rule, "both", answer), 1)
            self.assertTrue([paper for paper in answer.papers if isinstance(paper.paper, Split)])
        for text in LATE:
            self.assertGreater(max(paper.weight for paper in judge(WeightRule.read(text)).papers), 1)

    def test_an_edge_further(self):
        # One more by which both turns part, and the rule breaks.
        for one, other in (("turn 5/2 3 3/2 3", "turn 5/2 3 3/2 4"), ("turn 5/2 1 7/5 5", "turn 5/2 1 7/5 6"),
                           ("turn 6/2 6 2/1 2", "turn 6/2 6 2/1 3"), ("try 4/1 -1", "try 4/1 -2")):
            self.assertTrue(judge(WeightRule.read(one)))
            self.assertFalse(judge(WeightRule.read(other)))

    def test_right_for_puts_alone(self):
        for text in ("try 5/1 6", "try 6/1 -4", "try 4/1 -2"):
            rule = WeightRule.read(text)
            self.check(rule, "put", judge(rule, "put"))
            self.assertFalse(judge(rule, "take"))
            self.assertEqual(judge(rule), judge(rule, "take"))

    def test_all_try_rules(self):
        for p, q, k in FAIR:
            self.check_all_deeds(TryRule((p, q), k))

    def test_many_rules(self):
        for rule in some_rules(1, 150):
            self.check_all_deeds(rule)

    def test_the_input_that_took_longest(self):
        slow = TurnRule((3, 3), 6, turn=(1, 1), turn_plus=-1)
        near = [TurnRule((3, 3), 6, turn=(1, 1), turn_plus=plus) for plus in (-3, -2, 0, 1)]
        for rule in [slow, *near, *[TurnRule((3, 3), 5, turn=turn, turn_plus=-1) for turn in ((1, 1), (3, 2), (2, 3))]]:
            for deeds in ("put", "take", "both"):
                answer = judge(rule, deeds)
                if answer:
                    self.check(rule, deeds, answer)
                    continue
                self.assertIs(answer.__class__, Wrong)
                a, b = answer.numbers[0], sum(answer.numbers[1:])
                self.assertEqual(told_of(answer), least_break(rule, deeds_of(deeds), a))
                self.assertEqual(breaks(rule, answer.deed, a, b), answer)
                case = Case(answer.deed, answer.once, answer.twice)
                self.assertIs(numbers_break(rule, case, answer.numbers), True)
            self.check_all_deeds(rule)
        self.assertEqual([bool(judge(slow, deeds)) for deeds in ("put", "take", "both")], [False] * 3)

    def check_all_deeds(self, rule):
        """That the verdicts for puts, takes and both fit together."""
        puts, takes, both = (judge(rule, deeds) for deeds in ("put", "take", "both"))
        if takes:
            self.assertTrue(puts)
        wrong = [answer for answer in (puts, takes) if not answer]
        if not wrong:
            self.check(rule, "both", both)
            self.assertEqual(both.papers, puts.papers + takes.papers)
        else:
            first = min(wrong, key=lambda answer: (answer.numbers[0], sum(answer.numbers[1:])))
            self.assertEqual(both, first)


class WrongTest(unittest.TestCase):

    def test_the_least_numbers(self):
        many = 0
        for rule in some_rules(2, 260):
            for deeds in ("put", "take", "both"):
                answer = judge(rule, deeds)
                if not answer and answer.numbers[0] <= 7:
                    self.assertIs(answer.__class__, Wrong)
                    self.assertEqual(told_of(answer), least_break(rule, deeds_of(deeds), 7))
                    many += 1
        self.assertGreater(many, 500)

    def test_kinds(self):
        answer = judge(FOUR)
        self.assertEqual([value.__class__ for value in told_of(answer)], [str, tuple, None.__class__, tuple])
        self.assertIs(bool(answer), False)
        self.assertEqual(answer, Wrong("take", ("light", "second"), None, (1, 5, 3)))

    def test_great_least_numbers(self):
        for text, deed, deeds, numbers in FAR:
            rule, told = WeightRule.read(text), (deed, None, ("far", "second"), numbers)
            self.assertEqual(told_of(judge(rule, deeds)), told)
            a, b = numbers[0], sum(numbers[1:])
            for light in range(1, a + 1):
                for heavy in heavy_weights(rule, light):
                    if (light, heavy) < (a, b):
                        self.assertEqual([breaks(rule, one, light, heavy) for one in deeds_of(deeds)].count(None),
                                         len(deeds_of(deeds)))
            for light in range(5, 40, 8):
                for heavy in heavy_weights(rule, light):
                    self.assertIsNone(first_break(rule, deeds_of(deeds), light, heavy))
            self.assertEqual(first_break(rule, deeds_of(deeds), a, b), told)

    def test_by_all_small_fair_trees(self):
        for rule in [THREE, FOUR, TryRule((2, 1)), TryRule((5, 2)), TurnRule((3, 1), turn=(1, 2), turn_plus=-6),
                     TurnRule((2, 1), turn=(3, 2)), TryRule((1, 1), 1), TurnRule((5, 2), turn=(8, 1)),
                     *some_rules(3, 12)]:
            spoilt = {"put": None, "take": None}
            most = 9 if len(all_shapes(rule, 9)) < 500 else 8
            for weight in range(1, most + 1):
                for shape in all_shapes(rule, weight):
                    for deed in spoilt:
                        if spoilt[deed] is None and self.spoils(rule, playing.layout_of(shape), deed):
                            spoilt[deed] = weight
            for deed, least in spoilt.items():
                answer = judge(rule, deed)
                # The tree ahead of the deed: a put adds to the heavier side, a take takes from the lighter one.
                wanted = None if answer else sum(answer.numbers) + (1 if deed == "take" else -1)
                self.assertEqual(least, wanted if wanted is not None and wanted <= most else None, (str(rule), deed))

    def spoils(self, rule, layout, deed):
        """Whether some deed in a fair tree is stuck or leaves a node that is not fair."""
        keys = playing.keys_of_layout(layout)
        if deed == "put":
            layout = self.doubled(layout)
            plays = [(playing.put, 2 * place + 1) for place in range(len(keys) + 1)]
        else:
            plays = [(playing.take, key) for key in keys]
        for play, key in plays:
            try:
                behind = play(rule, layout, key)
            except playing.IsStuck:
                return True
            if playing.unfair_keys(rule, behind):
                return True
        return False

    def doubled(self, layout):
        return () if layout == () else (self.doubled(layout[0]), 2 * layout[1], self.doubled(layout[2]))


class BreaksTest(unittest.TestCase):

    def test_a_try_rule_with_many_cases(self):
        rule = TryRule((5, 2), 0)
        for deed in ("put", "take"):
            for light in (3, 4):
                for heavy in range(rule.greatest(light), rule.greatest(light + 1) + 2):
                    told = [(deed, case.once, case.twice, numbers) for case in cases(rule, deed)
                            for numbers in self.all_numbers(rule, case, light, heavy)]
                    answer = breaks(rule, deed, light, heavy)
                    self.assertEqual(None if answer is None else told_of(answer), told[0] if told else None)
                    self.assertEqual(first_break(rule, (deed,), light, heavy), told[0] if told else None)
        for text in ("try 2/1 0", "try 6/1 6", "try 5/1 -3", "try 3/2 5", "try 1/1 3", "turn 5/2 0 1/1 0"):
            rule = WeightRule.read(text)
            for deed in ("put", "take"):
                for light in (3, 4):
                    for heavy in heavy_weights(rule, light):
                        told = [(deed, case.once, case.twice, numbers) for case in cases(rule, deed)
                                for numbers in self.all_numbers(rule, case, light, heavy)]
                        answer = breaks(rule, deed, light, heavy)
                        self.assertEqual(None if answer is None else told_of(answer), told[0] if told else None)

    def all_numbers(self, rule, case, light, heavy):
        """All numbers with these weights that keep the tests of a case, by c, then by e."""
        tests = tests_of(rule, case)
        for inner in range(1, heavy):
            if len(tests[0]) == 3:
                rows = [(light, inner, heavy - inner)]
            else:
                rows = [(light, near, inner - near, heavy - inner) for near in range(1, inner)]
            for numbers in rows:
                keeps = all(test(numbers) for test in tests)
                self.assertIs(numbers_break(rule, case, numbers), keeps)
                if keeps:
                    yield numbers


    def test_all_small_pairs(self):
        for rule in [*some_rules(4, 40), THREE, FOUR, TryRule((2, 1))]:
            for light in range(1, 7):
                for heavy in range(1, 26):
                    for deed in ("put", "take"):
                        answer = breaks(rule, deed, light, heavy)
                        told = first_break(rule, (deed,), light, heavy)
                        self.assertEqual(None if answer is None else told_of(answer), told)

    def test_great_pairs(self):
        great = 10 ** 12
        random.seed(5)
        found = 0
        for rule in [*some_rules(6, 120), *[WeightRule.read(text) for text, _, _, _ in FAR]]:
            light = (great - 100) * rule.times[1] // rule.times[0] - random.randint(0, 99)
            for deed in ("put", "take"):
                for heavy in heavy_weights(rule, light):
                    answer = breaks(rule, deed, light, heavy)
                    if answer is not None:
                        found += 1
                        case = Case(answer.deed, answer.once, answer.twice)
                        self.assertTrue(numbers_break(rule, case, answer.numbers))
                        self.assertEqual((answer.numbers[0], sum(answer.numbers[1:]), answer.deed), (light, heavy, deed))
                    self.assertEqual(breaks(rule, deed, light, heavy), answer)
                    if judge(rule, deed):
                        self.assertIsNone(answer)
        self.assertGreater(found, 100)
        self.assertIsNone(breaks(FOUR, "put", great, great))
        self.assertIsNone(breaks(FOUR, "put", 1, great))
        self.assertIsNone(breaks(FOUR, "take", great, 1))

    def test_the_least_numbers_of_middling_pairs(self):
        random.seed(7)
        found = 0
        for rule in [*some_rules(8, 60), *[WeightRule.read(text) for text, _, _, _ in FAR]]:
            light = random.randint(30, 120)
            for heavy in heavy_weights(rule, light):
                answer = breaks(rule, "take", light, heavy)
                if answer is None:
                    continue
                found += 1
                for case in cases(rule, "take"):
                    at_weights = self.at_weights(rule, case, light, heavy)
                    if case == Case(answer.deed, answer.once, answer.twice):
                        self.check_least(at_weights, answer.numbers)
                        break
                    self.assertNotIsInstance(settled(at_weights), Point)
        self.assertGreater(found, 30)

    def at_weights(self, rule, case, light, heavy):
        """The tests of a case, with tests that tell a and b."""
        tests = list(tests_of(rule, case))
        count = len(tests[0])
        for parts, weight in (([1] + [0] * (count - 1), light), ([0] + [1] * (count - 1), heavy)):
            test = StraightTest(parts, weight)
            tests += [test, -test]
        return tests

    def check_least(self, tests, numbers):
        """That no numbers have a lesser c, or the same one and a lesser e."""
        inner, count = sum(numbers[1:-1]), len(numbers)
        test = StraightTest([0] + [1] * (count - 2) + [0], inner)
        self.assertNotIsInstance(settled([*tests, ~test]), Point)
        if count == 4:
            near = StraightTest([0, 1, 0, 0], numbers[1])
            self.assertNotIsInstance(settled([*tests, test, -test, ~near]), Point)
        self.assertTrue(all(test(numbers) for test in tests))

    def test_wrong_arguments(self):
        for value in [*any_values(), 0, -1, 10 ** 12 + 1, True, "both", "puts"]:
            if not isinstance(value, (TryRule, TurnRule)):
                assert_raises(self, BadRule("rule"), judge, value)
                assert_raises(self, BadRule("rule"), judge, value, value)
                assert_raises(self, BadRule("rule"), breaks, value, value, value, value)
            if value != "both":
                assert_raises(self, BadDeeds(value), judge, THREE, value)
            assert_raises(self, BadDeeds(value), breaks, THREE, value, 1, 1)
            assert_raises(self, BadDeeds(value), breaks, THREE, value, value, value)
            if not (value.__class__ is int and 1 <= value <= 10 ** 12):
                assert_raises(self, BadNumber(value), breaks, THREE, "put", value, 5)
                assert_raises(self, BadNumber(value), breaks, THREE, "put", value, None)
                assert_raises(self, BadNumber(value), breaks, THREE, "take", 1, value)
        self.assertEqual(breaks(heavy=8, light=1, deed="take", rule=FOUR), judge(FOUR))
        self.assertIsNone(breaks(THREE, "put", 10 ** 12, 10 ** 12))


if __name__ == "__main__":
    unittest.main()
