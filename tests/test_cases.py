"""Cases and their tests, against the sentences of point [6]."""

import unittest
from itertools import product

from evenrules.cases import Case, cases, numbers_break, tests_of
from evenrules.errors import BadDeeds, BadOther, BadRule
from evenrules.rules import TryRule, TurnRule
from evenrules.straight import Test as StraightTest
from helping import any_values, assert_raises, run_examples

EXAMPLES = """
>>> from evenrules.rules import TryRule, TurnRule
>>> four = TurnRule((4, 1), turn=(2, 1), turn_plus=-1)
>>> from evenrules.cases import Case, cases, numbers_break, tests_of
>>> some = list(cases(four, "take"))
>>> [len(some), some[1] == Case("take", ("light", "second"), None), some[4] == Case("take", None, ("inner", "none")), len(list(cases(TryRule((3, 1)), "put")))]
[11, True, True, 28]
>>> [str(test) for test in tests_of(four, some[1])]
['1 0 0 >= 1', '0 1 0 >= 1', '0 0 1 >= 1', '-4 1 1 >= 1', '4 -1 -1 >= -4', '0 4 -1 >= 0', '0 -1 4 >= 0', '0 -1 2 >= 1', '-4 1 0 >= 1']
>>> [numbers_break(four, some[1], (1, 5, 3)), numbers_break(four, some[1], (1, 4, 4))]
[True, False]
"""
ONCE = [("light", "first"), ("light", "second"), ("top", "first"), ("top", "second")]
TWICE = [("inner", "none"), ("light", "first"), ("light", "second"), ("far", "first"), ("far", "second"),
         ("top", "first"), ("top", "second")]
TURNS = [TurnRule((4, 1), turn=(2, 1), turn_plus=-1), TurnRule((5, 2), -1, turn=(7, 5), turn_plus=-5),
         TurnRule((1, 1), 6, turn=(1, 8), turn_plus=6), TurnRule((6, 5), 4, turn=(8, 3), turn_plus=-6)]
TRIES = [TryRule((3, 1)), TryRule((5, 2), -1), TryRule((6, 4), 5)]


class Sums:
    """Sums of unknowns, added and multiplied as they are written in the document."""

    def __init__(self, parts):
        self.parts = tuple(parts)

    def __add__(self, other):
        return Sums(mine + its for mine, its in zip(self.parts, other.parts))

    def __sub__(self, other):
        return Sums(mine - its for mine, its in zip(self.parts, other.parts))

    def __rmul__(self, times):
        return Sums(times * part for part in self.parts)

    def __ge__(self, bound):
        return StraightTest(self.parts, bound)


def told_tests(rule, case):
    """The tests of a case, word by word as point [6] has them."""
    (p, q), k = rule.times, rule.plus
    short = case.twice is None or case.twice[0] == "inner"
    count = 3 if short else 4
    unknowns = [Sums(1 if at == place else 0 for at in range(count)) for place in range(count)]
    if short:
        a, c, d = unknowns
    else:
        a, e, f, d = unknowns
        c = e + f
    b = c + d
    told = [unknown >= 1 for unknown in unknowns]
    told.append(q * b - p * a >= k + 1)
    told.append(p * a - q * b >= (-k - q if case.deed == "put" else -k - p))
    told += [p * c - q * d >= -k, p * d - q * c >= -k]
    if not short:
        told += [p * e - q * f >= -k, p * f - q * e >= -k]
    if isinstance(rule, TurnRule):
        (t, s), r = rule.turn, rule.turn_plus
        told.append(t * d - s * c >= -r if case.once is not None else s * c - t * d >= r + 1)
    if case.once is not None:
        told.append(heavy(rule, {"light": (a, c), "top": (a + c, d)}, case.once))
    if case.twice is not None and case.twice[0] == "inner":
        told.append(-1 * c >= -1)
    elif case.twice is not None:
        told.append(heavy(rule, {"light": (a, e), "far": (f, d), "top": (a + e, f + d)}, case.twice))
    return told


def heavy(rule, nodes, told):
    (p, q), k = rule.times, rule.plus
    first, second = nodes[told[0]]
    x, y = (first, second) if told[1] == "first" else (second, first)
    return q * x - p * y >= k + 1


def all_cases(rule):
    return [case for deed in ("put", "take") for case in cases(rule, deed)]


class CasesTest(unittest.TestCase):

    def test_examples(self):
        run_examples(self, EXAMPLES)

    def test_cases_of_turn_rules(self):
        for rule, deed in product(TURNS, ("put", "take")):
            wanted = [Case(deed, once, None) for once in ONCE] + [Case(deed, None, twice) for twice in TWICE]
            self.assertEqual(list(cases(rule, deed)), wanted)
            self.assertEqual(list(cases(deed=deed, rule=rule)), wanted)

    def test_cases_of_try_rules(self):
        for rule, deed in product(TRIES, ("put", "take")):
            self.assertEqual(list(cases(rule, deed)), [Case(deed, once, twice) for once in ONCE for twice in TWICE])

    def test_kinds(self):
        for case in all_cases(TRIES[0]):
            self.assertEqual((case.__class__, case.once.__class__, case.twice.__class__), (Case, tuple, tuple))

    def test_wrong_rules_and_deeds(self):
        for value in any_values():
            if not isinstance(value, (TryRule, TurnRule)):
                assert_raises(self, BadRule("rule"), lambda: list(cases(value, "put")))
                assert_raises(self, BadRule("rule"), lambda: list(cases(value, value)))
            assert_raises(self, BadDeeds(value), lambda: list(cases(TURNS[0], value)))
            assert_raises(self, BadDeeds(value), lambda: next(iter(cases(TRIES[0], value))))
        for word in ("both", "puts", "Take", ""):
            assert_raises(self, BadDeeds(word), lambda: list(cases(TURNS[0], word)))


class TestsTest(unittest.TestCase):

    def test_the_tests_one_by_one(self):
        for rule in TURNS + TRIES:
            for case in all_cases(rule):
                told = tests_of(rule, case)
                self.assertIsInstance(told, tuple)
                wanted = told_tests(rule, case)
                self.assertEqual([str(test) for test in told], [str(test) for test in wanted], vars(case))
                self.assertEqual(list(told), wanted)

    def test_all_rules_of_some_weights(self):
        # Each row of each case, where the numbers of the rules are as far apart as they can be, and where they are one.
        for p, q, k in ((1, 1, 1), (1, 1, 6), (6, 1, -4), (6, 1, 6), (6, 6, 6), (5, 2, 0), (4, 3, 2)):
            for rule in (TryRule((p, q), k), TurnRule((p, q), k, turn=(8, 1), turn_plus=6),
                         TurnRule((p, q), k, turn=(1, 8), turn_plus=-6), TurnRule((p, q), k, turn=(7, 7))):
                for case in all_cases(rule):
                    told = tests_of(rule, case)
                    self.assertEqual(list(told), told_tests(rule, case))
                    for test in told:
                        self.assertEqual((test.__class__, test.parts.__class__), (StraightTest, tuple))
                        self.assertTrue(all(part.__class__ is int for part in (*test.parts, test.bound)))

    def test_how_many(self):
        for case in all_cases(TURNS[0]):
            short = case.twice is None or case.twice[0] == "inner"
            self.assertEqual(len(tests_of(TURNS[0], case)), 9 if short else 12)
        for case in all_cases(TRIES[0]):
            self.assertEqual(len(tests_of(TRIES[0], case)), 9 if case.twice[0] == "inner" else 12)

    def test_cases_of_the_other_kind_of_rule(self):
        for one, other in ((TURNS[0], TRIES[0]), (TRIES[0], TURNS[0])):
            for case in all_cases(one):
                assert_raises(self, BadOther("case"), tests_of, other, case)
                assert_raises(self, BadOther("case"), numbers_break, other, case, (1, 1, 1))

    def test_what_is_no_case(self):
        wrong = [Case("both", ONCE[0], None), Case("put", None, None), Case("put", ONCE[0], ("light", "none")),
                 Case("put", list(ONCE[0]), None), Case("put", ("far", "first"), None), Case("put", None, ("far", "none")),
                 Case("put", ("light", "first", "first"), None), Case(None, ONCE[0], None), Case(("put",), ONCE[0], None),
                 Case("put", ("inner", "none"), None), Case("put", "light first", None), Case("take", ONCE[0], False),
                 Case("take", None, ["inner", "none"]), ("put", ONCE[0], None), "put"]
        for value in [*any_values(), *wrong]:
            if isinstance(value, Case) and value == Case("put", ONCE[0], None):
                continue
            for rule in (TURNS[0], TRIES[1]):
                assert_raises(self, BadOther("case"), tests_of, rule, value)
                assert_raises(self, BadOther("case"), numbers_break, rule, value, value)
        for value in any_values():
            if not isinstance(value, (TryRule, TurnRule)):
                assert_raises(self, BadRule("rule"), tests_of, value, value)
                assert_raises(self, BadRule("rule"), numbers_break, value, None, (1, 1, 1))
        twisted = Case(once=None, twice=("top", "first"), deed="take")
        self.assertEqual(tests_of(TURNS[0], twisted), tests_of(TURNS[0], list(cases(TURNS[0], "take"))[9]))


class NumbersTest(unittest.TestCase):

    def test_numbers_near_the_bounds(self):
        for rule in TURNS[:2] + TRIES[:1]:
            many = 0
            for case in all_cases(rule):
                tests = tests_of(rule, case)
                for numbers in product(*[range(0, 9)] * len(tests[0].parts)):
                    keeps = all(sum(part * number for part, number in zip(test.parts, numbers)) >= test.bound
                                for test in tests)
                    if keeps or sum(numbers) % 37 == 0:
                        self.assertIs(numbers_break(rule, case, numbers), keeps)
                        self.assertIs(numbers_break(rule, case, list(numbers)), False)
                        many += keeps
            self.assertEqual(many > 0, rule == TURNS[0])

    def test_each_test_counts(self):
        rule, case = TURNS[0], Case("take", ("light", "second"), None)
        self.assertIs(numbers_break(rule, case, (1, 5, 3)), True)
        for numbers in ((0, 5, 3), (2, 5, 3), (1, 5, 2), (1, 4, 3), (1, 4, 4), (1, 6, 3), (1, 5, 4), (1, 6, 2), (-1, 5, 3)):
            self.assertIs(numbers_break(rule, case, numbers), False)
        # A put needs the sides just one key further apart.
        self.assertIs(numbers_break(rule, Case("put", ("light", "second"), None), (1, 5, 3)), False)

    def test_great_numbers(self):
        great = 10 ** 69
        rule = TurnRule((5, 2), 6, turn=(4, 3), turn_plus=6)
        case = Case("take", None, ("far", "second"))
        self.assertIs(numbers_break(rule, case, (65, 70, 27, 71)), True)
        self.assertIs(numbers_break(rule, case, (great, great, great, great)), False)

    def test_values_of_all_kinds(self):
        rule, case = TURNS[0], Case("take", ("light", "second"), None)
        values = [*any_values(), (1, 5, 3, 0), (1, 5), (True, 5, 3), (1, 5, "3"), "153", (1, 5, None), ((1, 5, 3),), ()]
        for value in values:
            self.assertIs(numbers_break(rule, case, value), False)
        self.assertIs(numbers_break(numbers=(1, 5, 3), case=case, rule=rule), True)


if __name__ == "__main__":
    unittest.main()
