"""The search for the least numbers of a case at told weights, against all numbers gone through."""

import unittest

from breaking import is_left_by, numbers_of_case
from evenrules.cases import cases, numbers_break
from evenrules.grips import Grip, heavy_ends
from evenrules.rules import WeightRule
from test_judged import FAR, some_rules

# Each case that has whole numbers by some rule has some by one of these.
MET = ["turn 3/3 4 4/4 5", "turn 5/1 -3 2/1 1", "turn 5/2 4 3/6 3", "turn 2/2 2 1/4 0", "turn 5/1 6 8/7 4",
       "turn 3/2 2 5/7 6", "try 5/4 6", "try 1/1 3", "try 5/1 -3", "try 6/1 5", "try 3/2 5"]


class GripTest(unittest.TestCase):

    def test_the_least_numbers_of_each_case(self):
        found = {}
        rules = [*some_rules(21, 30), *[WeightRule.read(text) for text in MET]]
        for rule in rules:
            for light in (1, 7, 11) if rule.greatest(11) < 40 else (1, 2, 3):
                self.check(rule, light, found)
        # These are all that could be found for any rule: the other cases have no whole numbers.
        wanted = [(None, twice) for twice in (("inner", "none"), ("light", "first"), ("light", "second"),
                                              ("far", "second"), ("top", "first"))]
        wanted += [(once, None) for once in (("light", "first"), ("light", "second"), ("top", "first"))]
        self.assertLessEqual(set(wanted), set(found))
        self.assertEqual(len(found), 16)

    def check(self, rule, light, found):
        for deed in ("put", "take"):
            least, most = heavy_ends(rule, deed, light)
            for case in cases(rule, deed):
                grip = Grip(rule, case)
                for heavy in range(least - 1, most + 2):
                    told = next(numbers_of_case(rule, case.once, case.twice, light, heavy), None)
                    if not is_left_by(rule, deed, light, heavy):
                        told = None
                    self.assertEqual(grip.numbers_at(light, heavy), told, (str(rule), vars(case), light, heavy))
                    if told is not None:
                        found[case.once, case.twice] = True

    def test_great_weights(self):
        for text, _, deed, _ in FAR:
            rule = WeightRule.read(text)
            for deed in ("put", "take"):
                for light in (1000, 10 ** 9 + 7, 10 ** 30):
                    least, most = heavy_ends(rule, deed, light)
                    for case in cases(rule, deed):
                        for heavy in range(least, most + 1):
                            numbers = Grip(rule, case).numbers_at(light, heavy)
                            if numbers is not None:
                                self.assertTrue(numbers_break(rule, case, numbers))
                                self.assertEqual((numbers[0], sum(numbers[1:])), (light, heavy))


if __name__ == "__main__":
    unittest.main()
