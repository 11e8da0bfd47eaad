"""Fair shapes: how many there are, their order, and the way from an index to a shape and back."""

import unittest
from itertools import islice

from evenrules.counts import counts, place_of, shape_at, shapes
from evenrules.errors import BadNumber, BadOther, BadRule
from evenrules.heights import halves_shape, is_fair, keys_of, tall_shape
from evenrules.rules import TryRule, TurnRule
from helping import any_values, assert_raises, deep_tuple, run_examples
from shaping import all_shapes, fair_splits, high_shape, is_fair_shape

EXAMPLES = """
>>> from evenrules.rules import TryRule, TurnRule
>>> thrice, less = TryRule((3, 1)), TryRule((5, 2))
>>> from evenrules.counts import counts, place_of, shape_at, shapes
>>> [counts(thrice, 5), len(list(shapes(thrice, 4))), shape_at(thrice, 2, 0), place_of(thrice, (((), ()), ())), counts(less, 3)]
[(1, 1, 2, 5, 4, 14), 4, ((), ((), ())), 1, (1, 1, 2, 1)]
"""
RULES = [TryRule((3, 1)), TryRule((5, 2)), TurnRule((6, 1), 6, turn=(2, 1)), TryRule((1, 1), 1), TryRule((2, 1), -0),
         TurnRule((3, 2), 1, turn=(1, 1)), TryRule((6, 4), 6), TryRule((6, 6), 6), TryRule((4, 1), -2)]


def told_counts(rule, keys):
    """How many fair shapes there are, split by split."""
    many = [None, 1]
    for weight in range(2, keys + 2):
        many.append(sum(many[x] * many[y] for x, y in fair_splits(rule, weight)))
    return tuple(many[1:])


class CountsTest(unittest.TestCase):

    def test_examples(self):
        run_examples(self, EXAMPLES)

    def test_small_numbers(self):
        for rule in RULES:
            for keys in range(9):
                wanted = all_shapes(rule, keys + 1)
                self.assertEqual(list(shapes(rule, keys)), wanted)
                self.assertEqual(counts(rule, keys), tuple(len(all_shapes(rule, at + 1)) for at in range(keys + 1)))
                for at, shape in enumerate(wanted):
                    self.assertEqual(shape_at(rule, keys, at), shape)
                    self.assertEqual(place_of(rule, shape), at)
                assert_raises(self, BadNumber(len(wanted)), shape_at, rule, keys, len(wanted))
                assert_raises(self, BadNumber(-1), shape_at, rule, keys, -1)

    def test_great_numbers(self):
        for rule in RULES:
            for keys in (50, 121, 199, 200):
                many = counts(rule, keys)
                self.assertEqual(many, told_counts(rule, keys))
                last = many[-1] - 1
                for at in (0, 1, last // 3, last // 2, last - 1, last):
                    if not 0 <= at <= last:
                        continue
                    shape = shape_at(rule, keys, at)
                    self.assertEqual(keys_of(shape), keys)
                    self.assertIs(is_fair(rule, shape), True)
                    self.assertEqual(place_of(rule, shape), at)
                assert_raises(self, BadNumber(last + 1), shape_at, rule, keys, last + 1)

    def test_neighbours_in_the_order(self):
        rule = RULES[2]
        first = list(islice(shapes(rule, 200), 300))
        self.assertEqual([place_of(rule, shape) for shape in first], list(range(300)))
        self.assertEqual([shape_at(rule, 200, at) for at in range(0, 300, 20)], first[::20])
        middle = counts(rule, 60)[60] // 2
        for at in range(middle, middle + 20):
            one, other = shape_at(rule, 60, at), shape_at(rule, 60, at + 1)
            self.assertLess(self.place(one), self.place(other))

    def place(self, shape):
        """What shapes of one weight are ordered by: the weight of the left side, the left side, the right side."""
        if shape == ():
            return ()
        return (keys_of(shape[0]), self.place(shape[0]), self.place(shape[1]))

    def test_shapes_are_made_when_they_are_requested(self):
        some = shapes(RULES[0], 200)
        self.assertEqual(place_of(RULES[0], next(some)), 0)
        self.assertEqual(place_of(RULES[0], next(some)), 1)

    def test_other_shapes(self):
        for rule in RULES:
            for keys in (0, 1, 17, 150, 200):
                for shape in (halves_shape(keys), tall_shape(rule, keys)):
                    self.assertEqual(shape_at(rule, keys, place_of(rule, shape)), shape)

    def test_two_hundred_keys(self):
        rule = TryRule((6, 1), 6)
        first, half, tall = shape_at(rule, 200, 0), halves_shape(200), tall_shape(rule, 200)
        self.assertEqual((keys_of(first), is_fair(rule, first), place_of(rule, first)), (200, True, 0))
        self.assertEqual((first, half, tall), (self.told_first(rule, 201), shape_at(rule, 200, place_of(rule, half)),
                                               shape_at(rule, 200, place_of(rule, tall))))
        many = told_counts(rule, 200)
        self.assertEqual((counts(rule, 200), self.told_place(rule, many, half), self.told_place(rule, many, tall)),
                         (many, place_of(rule, half), place_of(rule, tall)))
        assert_raises(self, BadNumber(many[200]), shape_at, rule, 200, many[200])
        for other in RULES:
            many = told_counts(other, 200)
            for keys in (198, 199, 200):
                for shape in (halves_shape(keys), tall_shape(other, keys), shape_at(other, keys, many[keys] - 1),
                              shape_at(other, keys, many[keys] // 7)):
                    place = place_of(other, shape)
                    self.assertEqual((shape_at(other, keys, place), self.told_place(other, many, shape)), (shape, place))

    def told_first(self, rule, weight):
        """The first fair shape of a weight: the left side is as light as it can be, and so in all sides."""
        if weight == 1:
            return ()
        left, right = fair_splits(rule, weight)[0]
        return (self.told_first(rule, left), self.told_first(rule, right))

    def told_place(self, rule, many, shape):
        """The index of a shape: those with a lighter left side, then those with a left side that stands ahead."""
        if shape == ():
            return 0
        left, right = keys_of(shape[0]) + 1, keys_of(shape[1]) + 1
        ahead = sum(many[x - 1] * many[y - 1] for x, y in fair_splits(rule, left + right) if x < left)
        return ahead + self.told_place(rule, many, shape[0]) * many[right - 1] + self.told_place(rule, many, shape[1])

    def test_wrong_rules_and_numbers(self):
        rule = RULES[0]
        for value in [*any_values(), 201, -1, True]:
            if not isinstance(value, (TryRule, TurnRule)):
                assert_raises(self, BadRule("rule"), counts, value, 3)
                assert_raises(self, BadRule("rule"), counts, value, value)
                assert_raises(self, BadRule("rule"), lambda: next(shapes(value, value)))
                assert_raises(self, BadRule("rule"), shape_at, value, None, None)
                assert_raises(self, BadRule("rule"), place_of, value, None)
            if not (value.__class__ is int and 0 <= value <= 200):
                assert_raises(self, BadNumber(value), counts, rule, value)
                assert_raises(self, BadNumber(value), lambda: next(shapes(rule, value)))
                assert_raises(self, BadNumber(value), shape_at, rule, value, None)
            if not (value.__class__ is int and 0 <= value < 4):
                assert_raises(self, BadNumber(value), shape_at, rule, 4, value)
        self.assertEqual(shape_at(index=1, keys=2, rule=rule), (((), ()), ()))

    def test_what_is_no_fair_shape(self):
        rule = RULES[1]
        wrong = [((((), ()), ()), ()), high_shape(9), high_shape(5000), halves_shape(201), halves_shape(2000),
                 tall_shape(rule, 201), [(), ()], ((), []), ((), (), ()), ((),), deep_tuple(4)]
        for value in [*any_values(), *wrong]:
            if value != ():
                assert_raises(self, BadOther("shape"), place_of, rule, value)
        for shape in all_shapes(TryRule((6, 1), 6), 8):
            if is_fair_shape(rule, shape):
                self.assertEqual(shape_at(rule, 7, place_of(rule, shape)), shape)
            else:
                assert_raises(self, BadOther("shape"), place_of, rule, shape)
        self.assertEqual(place_of(shape=(), rule=rule), 0)


if __name__ == "__main__":
    unittest.main()
