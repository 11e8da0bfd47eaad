"""Papers: what they keep, when they are equal, and their truth."""

import unittest

from evenrules.cases import Case
from evenrules.fills import Fits, Spill, Spills
from evenrules.judged import From, Right, Wrong
from evenrules.met import Met, Never
from evenrules.papers import Verdict
from evenrules.settled import Answer, Odd, Point, Split, Sum, Top
from evenrules.within import Parted, Within
from helping import any_values, deep_tuple

PARAMETERS = {
    Point: ["numbers"], Sum: ["weights"], Split: ["at", "weights", "papers"], Odd: ["weights", "divisor"],
    Top: ["high", "low", "weights"], Within: ["paper"], Parted: ["light", "heavy"], Case: ["deed", "once", "twice"],
    From: ["weight", "paper"], Right: ["papers"], Wrong: ["deed", "once", "twice", "numbers"],
    Met: ["light", "inner", "outer"], Never: ["paper"], Fits: ["size", "wrong"], Spills: ["size", "step"],
    Spill: ["most", "fills", "deed", "behind"],
}
TRUTHS = {Point: True, Sum: False, Split: False, Odd: False, Within: True, Parted: False, Right: True,
          Wrong: False, Met: True, Never: False, Fits: True, Spills: False}
BASES = {Point: Answer, Sum: Answer, Split: Answer, Odd: Answer, Within: Verdict, Parted: Verdict,
         Case: object, From: object, Right: Verdict, Wrong: Verdict, Met: Verdict, Never: Verdict, Fits: Verdict,
         Spills: Verdict, Spill: object}


class PapersTest(unittest.TestCase):

    def test_any_values_are_kept(self):
        for paper, parameters in PARAMETERS.items():
            for value in any_values():
                values = [value, 2, 3, 4][:len(parameters)]
                self.assertEqual(vars(paper(*values)), dict(zip(parameters, values)))
                values.reverse()
                named = dict(zip(parameters, values))
                self.assertEqual(vars(paper(**named)), named)

    def test_lists_that_were_passed_may_be_changed(self):
        for paper, parameters in PARAMETERS.items():
            inner, last = [1, 2], []
            made = paper(*[(inner, {"a": inner}, last) for _ in parameters])
            inner.append(3)
            last.append(4)
            for parameter in parameters:
                self.assertEqual(getattr(made, parameter), ([1, 2], {"a": [1, 2]}, []))

    def test_equal(self):
        for paper, parameters in PARAMETERS.items():
            values = [(1, 2), (1, 3), None, ()][:len(parameters)]
            self.assertTrue(paper(*values) == paper(*values))
            self.assertFalse(paper(*values) != paper(*values))
            for at in range(len(parameters)):
                others = [*values[:at], [1, 2], *values[at + 1:]]
                self.assertFalse(paper(*values) == paper(*others))
                self.assertTrue(paper(*values) != paper(*others))

    def test_other_classes_and_values_are_not_equal(self):
        for paper, parameters in PARAMETERS.items():
            made = paper(*[(1,)] * len(parameters))
            for other, others in PARAMETERS.items():
                self.assertIs(made == other(*[(1,)] * len(others)), paper is other)
            for value in any_values():
                if value.__class__ is not paper:
                    self.assertIs(made == value, False)
                    self.assertIs(value == made, False)

    def test_papers_in_papers_are_compared(self):
        one = Split(0, (1, 1), (Sum((1,)), Odd((1, 0), 2)))
        self.assertEqual(one, Split(0, (1, 1), (Sum((1,)), Odd((1, 0), 2))))
        self.assertNotEqual(one, Split(0, (1, 1), (Sum((1,)), Odd((1, 0), 3))))
        self.assertNotEqual(one, Split(0, (1, 1), (Sum((1,)), Sum((1, 0)))))

    def test_truth(self):
        for paper, truth in TRUTHS.items():
            for value in any_values():
                self.assertIs(bool(paper(*[value] * len(PARAMETERS[paper]))), truth)

    def test_bases(self):
        for paper, base in BASES.items():
            self.assertEqual(paper.__bases__, (base,))
        self.assertFalse(isinstance(Top(1, 2, ()), (Answer, Verdict)))

    def test_deep_values(self):
        deep = deep_tuple(2000)
        for paper, parameters in PARAMETERS.items():
            for parameter in parameters:
                made = paper(**{name: deep if name == parameter else 1 for name in parameters})
                self.assertIs(getattr(made, parameter), deep)


if __name__ == "__main__":
    unittest.main()
