"""The search for the least numbers of a case at told weights, against all numbers gone through."""

import unittest

from breaking import first_break, heavy_weights, is_left_by, numbers_of_case
from evenrules.cases import cases, numbers_break
from evenrules.grips import Grip, heavy_ends, turn_ends
from evenrules.rules import TurnRule, WeightRule, least_part
from shaping import fair_splits, is_fair_pair
from test_judged import FAR, FOUR, some_rules

# Each case that has whole numbers by some rule has some by one of these.
MET = ["turn 3/3 4 4/4 5", "turn 5/1 -3 2/1 1", "turn 5/2 4 3/6 3", "turn 2/2 2 1/4 0", "turn 5/1 6 8/7 4",
       "turn 3/2 2 5/7 6", "try 5/4 6", "try 1/1 3", "try 5/1 -3", "try 6/1 5", "try 3/2 5"]


def all_ends(rule, case, heavy):
    """The ends of c for the cases with as many turns as a case."""
    if isinstance(rule, TurnRule):
        return turn_ends(rule, heavy, 1 if case.twice is None else 2)
    least = least_part(rule, heavy)
    return least, heavy - least


class GripTest(unittest.TestCase):

    def test_the_least_numbers_of_each_case(self):
        found = {}
        rules = [*some_rules(21, 30), *[WeightRule.read(text) for text in MET]]
        for rule in rules:
            for light in (1, 7, 11) if rule.greatest(11) < 40 else (1, 2, 3):
                self.check(rule, light, found)
        # These are all that could be found for any rule: the other cases have no whole numbers.
        wanted = [(None, twice) for twice in (("inner", "none"), ("light", "first"), ("light", "second"),
                                              ("far", "second"), ("top", "first"))]
        wanted += [(once, None) for once in (("light", "first"), ("light", "second"), ("top", "first"))]
        self.assertLessEqual(set(wanted), set(found))
        self.assertEqual(len(found), 16)

    def check(self, rule, light, found):
        for heavy in heavy_weights(rule, light):
            grip = Grip(rule, light, heavy)
            for case in cases(rule, "take"):
                told = next(numbers_of_case(rule, case.once, case.twice, light, heavy), None)
                ends = all_ends(rule, case, heavy)
                wanted = None if told is None else (case.once, case.twice, told)
                self.assertEqual(grip.first_of((case.once,), (case.twice,), ends), wanted, (str(rule), light, heavy))
                if told is not None:
                    found[case.once, case.twice] = True
            first = first_break(rule, ("take",), light, heavy)
            self.assertEqual(grip.first_break(), None if first is None else first[1:])

    def test_ends_of_heavy_sides(self):
        for rule in [FOUR, *some_rules(22, 40)]:
            for light in (1, 2, 9, 30):
                for deed in ("put", "take"):
                    least, most = heavy_ends(rule, deed, light)
                    wanted = [heavy for heavy in range(1, 8 * light + 30) if is_left_by(rule, deed, light, heavy)]
                    self.assertEqual(list(range(least, most + 1)), wanted)

    def test_ends_of_turns(self):
        for rule in some_rules(23, 60):
            for heavy in range(3, 40):
                inner = [c for c, d in fair_splits(rule, heavy)]
                self.assertEqual((inner[0], inner[-1]), (least_part(rule, heavy), heavy - least_part(rule, heavy)))
                if isinstance(rule, TurnRule):
                    (t, s), r = rule.turn, rule.turn_plus
                    for turns in (1, 2):
                        wanted = [c for c in inner if (s * c <= t * (heavy - c) + r) == (turns == 1)]
                        low, high = turn_ends(rule, heavy, turns)
                        self.assertEqual(list(range(low, high + 1)), wanted)

    def test_breaks_that_never_have_numbers(self):
        # Even fair sides of all weights have none: the outer side, or the far part of the inner one, is never so heavy.
        for rule in some_rules(24, 25):
            for light in (1, 2, 3, 4):
                for heavy in heavy_weights(rule, light):
                    for c, d in fair_splits(rule, heavy):
                        self.assertTrue(d <= rule.greatest(light + c))
                        for e, f in fair_splits(rule, c) if c > 1 else []:
                            self.assertTrue(f <= rule.greatest(d) and f + d <= rule.greatest(light + e))
                            self.assertTrue(is_fair_pair(rule, e, f))

    def test_great_weights(self):
        for text, _, deed, _ in FAR:
            rule = WeightRule.read(text)
            for deed in ("put", "take"):
                for light in (1000, 10 ** 9 + 7, 10 ** 30):
                    least, most = heavy_ends(rule, deed, light)
                    for heavy in range(least, most + 1):
                        grip = Grip(rule, light, heavy)
                        for case in cases(rule, deed):
                            found = grip.first_of((case.once,), (case.twice,), all_ends(rule, case, heavy))
                            if found is not None:
                                self.assertTrue(numbers_break(rule, case, found[2]))
                                self.assertEqual((found[2][0], sum(found[2][1:])), (light, heavy))


if __name__ == "__main__":
    unittest.main()
