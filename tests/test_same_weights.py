"""Rules that let the same weights by other numbers: their answers are the same."""

import random
import unittest
from itertools import islice

from evenrules.cases import cases, numbers_break
from evenrules.counts import counts, place_of, shape_at, shapes
from evenrules.falls import fall_of
from evenrules.heights import greatest_height, halves_shape, heights, is_fair, least_keys, tall_shape
from evenrules.judged import breaks, judge
from evenrules.look_judged import shows_judged
from evenrules.met import met
from evenrules.rules import TryRule, TurnRule
from evenrules.trees import Tree
from evenrules.within import same_trees, within
from test_judged import FAIR

# Numbers that let the same weights: twice as many, or a part of a key more, which lets nothing more.
SAME = [((2, 1, 0), (4, 2, 1)), ((2, 1, 0), (6, 3, 2)), ((2, 1, 0), (6, 3, 0)), ((1, 1, 1), (2, 2, 3)), ((1, 1, 2), (3, 3, 6)),
        ((3, 1, -1), (6, 2, -1)), ((3, 2, 1), (6, 4, 2)), ((3, 1, 2), (6, 2, 5)), ((1, 1, 1), (5, 5, 6)), ((1, 1, 1), (4, 4, 5))]


def all_same():
    """Pairs of numbers that let the same weights, found by going through small weights and by the papers."""
    found = []
    for at, (p, q, k) in enumerate(FAIR):
        for other in FAIR[at + 1:]:
            if all((p * x + k) // q == (other[0] * x + other[2]) // other[1] for x in range(1, 40)):
                found.append(((p, q, k), other))
    return found


class SameTest(unittest.TestCase):

    def test_which_are_the_same(self):
        pairs = all_same()
        self.assertLessEqual(set(SAME), set(pairs))
        for (p, q, k), (u, v, w) in pairs:
            one, other = TryRule((p, q), k), TryRule((u, v), w)
            self.assertIs(same_trees(one, other), True)
            self.assertTrue(within(one, other) and within(other, one))
            self.assertNotEqual(one, other)

    def test_heights_and_counts(self):
        for (p, q, k), (u, v, w) in all_same()[::3]:
            one, other = TryRule((p, q), k), TurnRule((u, v), w, turn=(2, 1))
            self.assertEqual(list(islice(heights(one), 30)), list(islice(heights(other), 30)))
            self.assertEqual(counts(one, 60), counts(other, 60))
            self.assertEqual(list(islice(shapes(one, 9), 30)), list(islice(shapes(other, 9), 30)))
            for keys in (0, 7, 58):
                self.assertEqual(greatest_height(one, keys), greatest_height(other, keys))
                self.assertEqual(tall_shape(one, keys), tall_shape(other, keys))
                index = counts(one, keys)[keys] // 2
                shape = shape_at(one, keys, index)
                self.assertEqual(shape, shape_at(other, keys, index))
                self.assertEqual((place_of(other, shape), is_fair(other, shape)), (index, True))
                self.assertEqual(place_of(one, halves_shape(keys)), place_of(other, halves_shape(keys)))
            self.assertEqual(least_keys(one, 20), least_keys(other, 20))

    def test_verdicts_breaks_and_falls(self):
        for (p, q, k), (u, v, w) in all_same():
            for one, other in ((TryRule((p, q), k), TryRule((u, v), w)),
                               (TurnRule((p, q), k, turn=(3, 2), turn_plus=1), TurnRule((u, v), w, turn=(3, 2), turn_plus=1))):
                for deeds in ("put", "take", "both"):
                    told, same = judge(one, deeds), judge(other, deeds)
                    self.assertIs(bool(told), bool(same))
                    if not told:
                        self.assertEqual(told, same)
                        self.assertIs(shows_judged(other, deeds, told), True)
                        mine, its = fall_of(one, told), fall_of(other, told)
                        self.assertEqual((mine[0].layout, mine[1]), (its[0].layout, its[1]))

    def test_breaks_and_numbers(self):
        for (p, q, k), (u, v, w) in SAME:
            one, other = TryRule((p, q), k), TryRule((u, v), w)
            for deed in ("put", "take"):
                for light in (1, 2, 5, 17):
                    for heavy in range(one.greatest(light), one.greatest(light + 1) + 2):
                        self.assertEqual(breaks(one, deed, light, heavy), breaks(other, deed, light, heavy))
                for mine, its in zip(cases(one, deed), cases(other, deed)):
                    self.assertEqual(mine, its)
                    for numbers in ((1, 2, 3, 4), (1, 1, 1, 2), (2, 3, 1, 2), (1, 1, 3), (1, 3, 2), (2, 5, 3)):
                        self.assertIs(numbers_break(one, mine, numbers), numbers_break(other, its, numbers))

    def test_met(self):
        for (p, q, k), (u, v, w) in all_same()[::2]:
            for turn, turn_plus in (((2, 1), 0), ((3, 2), -1), ((8, 1), 6), ((1, 1), 6)):
                one = TurnRule((p, q), k, turn=turn, turn_plus=turn_plus)
                other = TurnRule((u, v), w, turn=turn, turn_plus=turn_plus)
                for deed in ("put", "take"):
                    for turns in (1, 2):
                        told = met(one, deed, turns)
                        self.assertIs(bool(told), bool(met(other, deed, turns)))
                        if told:
                            self.assertEqual(told, met(other, deed, turns))

    def test_trees(self):
        random.seed(51)
        for (p, q, k), (u, v, w) in SAME:
            one, other = Tree(TryRule((p, q), k)), Tree(TryRule((u, v), w))
            for _ in range(120):
                key = random.randint(0, 30)
                for tree in (one, other):
                    if key in tree:
                        tree.drop(key)
                    else:
                        tree.put(key)
                self.assertEqual((one.layout, one.unfair()), (other.layout, other.unfair()))


if __name__ == "__main__":
    unittest.main()
