"""`top_of`: how great an unknown can be, fractions counted."""

import random
import unittest

from evenrules.errors import BadNumber, BadTest
from evenrules.settled import Sum, Top, top_of
from evenrules.straight import Test as StraightTest
from helping import any_values, assert_raises, fractions_keep, is_right_paper, pairs


def read(*texts):
    return [StraightTest.read(text) for text in texts]


class TopTest(unittest.TestCase):

    def check(self, tests, at):
        """Checks the answer for a list, and returns it."""
        answer, rows = top_of(tests, at), pairs(tests)
        self.assertEqual(top_of(tuple(tests), at), answer)
        if isinstance(answer, Sum):
            self.assertTrue(is_right_paper(rows, answer))
        elif answer is None:
            far = tuple(1 if place == at else 0 for place in range(len(tests[0])))
            self.assertTrue(fractions_keep([*rows, (far, 10 ** 9)]))
        else:
            self.check_top(rows, at, answer)
        return answer

    def check_top(self, rows, at, answer):
        self.assertIs(answer.__class__, Top)
        self.assertIsInstance(answer.weights, tuple)
        self.assertEqual(len(answer.weights), len(rows))
        self.assertTrue(all(weight.__class__ is int and weight >= 0 for weight in answer.weights))
        self.assertGreaterEqual(answer.low, 1)
        for place in range(len(rows[0][0])):
            added = sum(weight * row[0][place] for weight, row in zip(answer.weights, rows))
            self.assertEqual(added, -answer.low if place == at else 0)
        self.assertEqual(sum(weight * row[1] for weight, row in zip(answer.weights, rows)), -answer.high)
        # The weights show that it is not greater; some fractions come so far.
        reached = tuple(answer.low if place == at else 0 for place in range(len(rows[0][0])))
        self.assertTrue(fractions_keep([*rows, (reached, answer.high)]))

    def test_the_example(self):
        told = self.check(read("1 0 >= 1", "-2 3 >= -4", "0 -1 >= -5"), 0)
        self.assertEqual((told.high, told.low * 19), (19 * told.high // 19, told.high * 2))

    def test_greatest(self):
        self.assertEqual(self.check(read("-3 >= -7"), 0), Top(7, 3, (1,)))
        self.assertEqual(self.check(read("-3 >= 7"), 0), Top(-7, 3, (1,)))
        self.assertEqual(self.check(read("-1 >= 0"), 0), Top(0, 1, (1,)))
        told = self.check(read("-2 -3 >= -12", "1 0 >= 0", "0 1 >= 0"), 1)
        self.assertEqual(told.high, 4 * told.low)
        told = self.check(read("1 -1 0 >= 0", "0 1 -1 >= 0", "-1 0 0 >= -5"), 2)
        self.assertEqual(told.high, 5 * told.low)

    def test_equations(self):
        told = self.check(read("3 -2 >= 1", "-3 2 >= -1", "0 5 >= 4", "0 -5 >= -4"), 0)
        self.assertEqual(told.high * 15, told.low * 13)

    def test_none(self):
        self.assertIsNone(self.check(read("1 >= 0"), 0))
        self.assertIsNone(self.check(read("0 >= -3"), 0))
        self.assertIsNone(self.check(read("1 0 >= 0", "-1 0 >= -5"), 1))
        self.assertIsNone(self.check(read("1 -1 >= 0", "-1 1 >= -5"), 0))
        self.assertIsNone(self.check(read("1 1 >= 0", "-1 -1 >= 0"), 1))

    def test_sum(self):
        for at in range(2):
            self.assertIsInstance(self.check(read("1 0 >= 1", "-1 0 >= 0"), at), Sum)
        self.assertIsInstance(self.check(read("0 0 >= 1"), 1), Sum)

    def test_fractions_count(self):
        # No whole numbers keep these tests, but fractions do.
        self.assertEqual(self.check(read("2 >= 1", "-2 >= -1"), 0), Top(1, 2, (0, 1)))

    def test_numbers_of_any_size(self):
        great = 10 ** 69
        told = self.check([StraightTest((-great, 1), 1 - great), StraightTest((0, -great), -great * great)], 0)
        self.assertEqual(told.high * great, told.low * (2 * great - 1))
        told = self.check([StraightTest((-3,), -10 ** 40)], 0)
        self.assertEqual((told.high, told.low), (10 ** 40, 3))

    def test_twenty_tests(self):
        tests = [StraightTest((-1, -at), -at * at) for at in range(20)]
        told = self.check(tests, 0)
        self.assertEqual(told.high, 0)
        assert_raises(self, BadTest(None), top_of, [*tests, tests[0]], 0)

    def test_random_lists(self):
        random.seed(5)
        kinds = {}
        for _ in range(300):
            many = random.randint(1, 3)
            tests = [StraightTest([random.randint(-5, 5) for _ in range(many)], random.randint(-9, 4))
                     for _ in range(random.randint(1, 5))]
            for at in range(many):
                answer = self.check(tests, at)
                kinds[answer.__class__] = kinds.get(answer.__class__, 0) + 1
        self.assertGreater(min(kinds.values()), 20)
        self.assertEqual(len(kinds), 3)

    def test_wrong_indexes(self):
        tests = read("1 0 >= 1", "-1 0 >= 0")
        for value in [*any_values(), -1, -2, 2, 3]:
            if value.__class__ is not int or value not in (0, 1):
                assert_raises(self, BadNumber(value), top_of, tests, value)

    def test_wrong_tests_come_first(self):
        for value in any_values():
            if not isinstance(value, (list, tuple)) or not 1 <= len(value) <= 20:
                assert_raises(self, BadTest(None), top_of, value, None)
            if not isinstance(value, StraightTest):
                assert_raises(self, BadTest(1), top_of, [*read("1 >= 0"), value], value)
        assert_raises(self, BadTest(1), top_of, read("1 >= 0", "1 2 >= 0"), 0)


if __name__ == "__main__":
    unittest.main()
