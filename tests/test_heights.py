"""Heights of fair trees, and shapes of trees, against all splits of small weights."""

import unittest
from itertools import islice

from evenrules.errors import BadNumber, BadOther, BadRule
from evenrules.heights import (greatest_height, halves_shape, height_of, heights, is_fair, keys_of, least_height,
                               least_keys, tall_shape)
from evenrules.rules import TryRule, TurnRule
from helping import any_values, assert_raises, deep_tuple, run_examples
from shaping import all_shapes, halves, height_of_shape, heights_by_weight, high_shape, is_fair_pair, is_fair_shape

EXAMPLES = """
>>> from evenrules.rules import TryRule, TurnRule
>>> thrice, less = TryRule((3, 1)), TryRule((5, 2))
>>> from evenrules.heights import greatest_height, halves_shape, height_of, heights, is_fair, keys_of, least_height, least_keys, tall_shape
>>> [[least_keys(thrice, height) for height in range(8)], greatest_height(thrice, 4), greatest_height(thrice, 13), least_height(13), least_height(0)]
[[0, 1, 2, 3, 5, 7, 10, 14], 3, 6, 4, 0]
>>> [halves_shape(2), tall_shape(thrice, 3), keys_of(halves_shape(9)), is_fair(thrice, ((((), ()), ()), ())), is_fair(less, ((((), ()), ()), ()))]
[(((), ()), ()), ((((), ()), ()), ()), 9, True, False]
"""
NUMBERS = [(p, q, k) for p in range(1, 7) for q in range(1, p + 1) for k in range(-6, 7) if p + k >= 2 * q]
RULES = [TryRule((p, q), k) if (p + q + k) % 2 else TurnRule((p, q), k, turn=(2, 1), turn_plus=k) for p, q, k in NUMBERS]
MOST = 10 ** 30


def is_no_rule(value):
    return not isinstance(value, (TryRule, TurnRule))


def is_from_to(value, most):
    return value.__class__ is int and 0 <= value <= most


class HeightsTest(unittest.TestCase):

    def test_examples(self):
        run_examples(self, EXAMPLES)

    def test_all_splits_of_small_weights(self):
        for rule in RULES[::3]:
            high, low = heights_by_weight(rule, 120)
            for keys in range(120):
                self.assertEqual(greatest_height(rule, keys), high[keys])
                self.assertEqual(least_height(keys), low[keys])
            for height in range(max(high) + 1):
                self.assertEqual(least_keys(rule, height), next(at for at, most in enumerate(high) if most >= height))
            self.assertEqual(list(islice(heights(rule), max(high) + 1)),
                             [least_keys(rule, height) for height in range(max(high) + 1)])

    def test_great_heights(self):
        for rule in RULES[::5]:
            weights = [number + 1 for number in islice(heights(rule), 1001)]
            self.assertEqual(weights[0], 1)
            for weight, following in zip(weights, weights[1:]):
                other = following - weight
                self.assertTrue(is_fair_pair(rule, weight, other) and 1 <= other <= weight)
                self.assertTrue(other == 1 or not is_fair_pair(rule, weight, other - 1))
            for height in (0, 1, 2, 57, 999, 1000):
                self.assertEqual(least_keys(rule, height), weights[height] - 1)

    def test_heights_go_on_without_an_end(self):
        self.assertEqual(next(islice(heights(TryRule((1, 1), 1)), 1500, None)), 2 ** 1499)

    def test_the_greatest_height_of_many_keys(self):
        for rule in RULES[::4]:
            for keys in (10 ** 30, 10 ** 30 - 1, 10 ** 17 + 3, 123456, 2000):
                height = greatest_height(rule, keys)
                if height < 1000:
                    self.assertLessEqual(least_keys(rule, height), keys)
                    self.assertGreater(least_keys(rule, height + 1), keys)
            for height in range(1, 40):
                least = least_keys(rule, height)
                self.assertEqual((greatest_height(rule, least), greatest_height(rule, least - 1)), (height, height - 1))

    def test_the_least_height_of_many_keys(self):
        for height in range(1, 100):
            if 2 ** height - 1 <= MOST:
                self.assertEqual(least_height(2 ** height - 1), height)
                self.assertEqual(least_height(2 ** (height - 1)), height)
        self.assertEqual(least_height(MOST), 100)

    def test_wrong_arguments(self):
        rule = RULES[5]
        for value in [*any_values(), 1001, MOST + 1, -1, True]:
            if is_no_rule(value):
                for action in (least_keys, greatest_height, tall_shape):
                    assert_raises(self, BadRule("rule"), action, value, 1)
                    assert_raises(self, BadRule("rule"), action, value, value)
                assert_raises(self, BadRule("rule"), lambda: next(heights(value)))
                assert_raises(self, BadRule("rule"), is_fair, value, ())
                assert_raises(self, BadRule("rule"), is_fair, value, value)
            if not is_from_to(value, 1000):
                assert_raises(self, BadNumber(value), least_keys, rule, value)
            if not is_from_to(value, MOST):
                assert_raises(self, BadNumber(value), greatest_height, rule, value)
                assert_raises(self, BadNumber(value), least_height, value)
            if not is_from_to(value, 2000):
                assert_raises(self, BadNumber(value), tall_shape, rule, value)
                assert_raises(self, BadNumber(value), halves_shape, value)
        assert_raises(self, BadNumber(2001), halves_shape, keys=2001)
        assert_raises(self, BadNumber(2001), tall_shape, keys=2001, rule=rule)
        self.assertEqual(least_keys(height=1, rule=rule), 1)


class ShapesTest(unittest.TestCase):

    def test_shapes_of_halves(self):
        for keys in [*range(130), 999, 1000, 1023, 1024, 1999, 2000]:
            shape = halves_shape(keys)
            self.assertEqual(shape, halves(keys))
            self.assertEqual((keys_of(shape), height_of(shape)), (keys, least_height(keys)))
            for rule in RULES[::25]:
                self.assertIs(is_fair(rule, shape), True)

    def test_tall_shapes_are_tall_and_fair(self):
        for rule in RULES[::6]:
            for keys in [*range(40), 77, 200, 777, 1999, 2000]:
                shape = tall_shape(rule, keys)
                self.assertEqual((keys_of(shape), height_of(shape)), (keys, greatest_height(rule, keys)))
                self.assertIs(is_fair(rule, shape), True)

    def test_tall_shapes_word_by_word(self):
        for rule in RULES[::6]:
            high, _ = heights_by_weight(rule, 70)
            for keys in range(70):
                self.assertEqual(tall_shape(rule, keys), self.tall(rule, keys + 1, high))

    def tall(self, rule, weight, high):
        if weight == 1:
            return ()
        height = high[weight - 1]
        least = next(other for other in range(1, weight + 1) if high[other - 1] >= height - 1)
        left = max((weight + 1) // 2, least)
        return (self.tall(rule, left, high), halves(weight - left - 1))

    def test_small_shapes(self):
        wide = TryRule((6, 1), 6)
        for weight in range(1, 9):
            for shape in all_shapes(wide, weight):
                self.assertEqual((keys_of(shape), height_of(shape)), (weight - 1, height_of_shape(shape)))
                for rule in RULES[::10]:
                    self.assertIs(is_fair(rule, shape), is_fair_shape(rule, shape))

    def test_very_high_shapes(self):
        for many in (500, 2000, 20000):
            shape = high_shape(many)
            self.assertEqual((keys_of(shape), height_of(shape)), (many, many))
            self.assertIs(is_fair(RULES[0], shape), False)
            both = (shape, halves_shape(100))
            self.assertEqual((keys_of(both), height_of(both)), (many + 101, many + 1))

    def test_shapes_that_stand_in_themselves_more_than_once(self):
        # One and the same object at both sides, and a shape whose sides are the parts of others.
        shape = ((), ())
        for many in range(1, 12):
            self.assertEqual((keys_of(shape), height_of(shape)), (2 ** many - 1, many))
            self.assertIs(is_fair(RULES[0], shape), True)
            shape = (shape, shape)
        deep = high_shape(900)
        both = (deep, deep)
        self.assertEqual((keys_of(both), height_of(both), is_fair(RULES[0], both)), (1801, 901, False))
        self.assertEqual(both, (high_shape(900), high_shape(900)))

    def test_no_tree_is_lower_than_that_of_halves(self):
        for shape in all_shapes(TryRule((6, 1), 6), 9):
            self.assertLessEqual(height_of(halves_shape(8)), height_of(shape))

    def test_what_is_no_shape(self):
        deep = high_shape(3000)
        wrong = [((),), ((), (), ()), ((), ((),)), ((), None), [(), ()], ([], ()), ((), []), ((), ((), 0)), "", ((), ""),
                 deep_tuple(3), ((deep, ()), ((), [])), ((), 1, ()), (deep, 1), {}]
        for value in [*any_values(), *wrong]:
            if value == ():
                continue
            assert_raises(self, BadOther("shape"), keys_of, value)
            assert_raises(self, BadOther("shape"), height_of, value)
            self.assertIs(is_fair(RULES[0], value), False)
        self.assertEqual((keys_of(()), height_of(()), is_fair(RULES[0], ())), (0, 0, True))
        self.assertEqual((keys_of(shape=((), ())), height_of(shape=((), ())), is_fair(shape=((), ()), rule=RULES[0])),
                         (1, 1, True))


if __name__ == "__main__":
    unittest.main()
