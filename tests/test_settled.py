"""Points and papers of `settled`: each answer is checked again by the words of the document alone."""

import random
import unittest

from evenrules.errors import BadTest, TooMany
from evenrules.look_settled import shows_none
from evenrules.settled import Answer, Odd, Point, Split, Sum, settled
from evenrules.straight import Test as StraightTest
from helping import (any_values, assert_raises, fractions_keep, holds, how_many, is_right_paper, pairs, run_examples,
                     whole_numbers)

EXAMPLES = """
>>> from evenrules.straight import Test
>>> strip = Test((3, -2), 1)
>>> from evenrules.look_settled import shows_none
>>> from evenrules.settled import Odd, Point, Split, Sum, Top, settled, top_of
>>> ends, even = [Test((1,), 3), Test((-1,), -2)], [Test((2, -2), 1), Test((-2, 2), -1)]
>>> [isinstance(settled(ends), Sum), shows_none(ends, Sum((2, 2))), bool(settled(even)), shows_none(even, Odd((1, 0), 2)), shows_none(even, Odd((1, 1), 2))]
[True, True, False, True, False]
>>> thirds = [Test((3,), 1), Test((-3,), -2)]
>>> first, second = Odd((1, 0, 0, 0), 3), Odd((0, 0, 1, 0), 3)
>>> [shows_none(thirds, settled(thirds)), shows_none(thirds, Split(0, (1, 1), (first, second))), shows_none(thirds, Split(0, (1, 1), (first,)))]
[True, True, False]
>>> told = top_of([Test((1, 0), 1), Test((-2, 3), -4), Test((0, -1), -5)], 0)
>>> [told.high * 2 == told.low * 19, Top(19, 2, (0, 1, 3)) == Top(19, 2, (0, 1, 3)), top_of([Test((1, 0), 1)], 0), bool(settled([strip, ~Test((3, -2), 2), Test((1, 0), 10)]))]
[True, True, None, True]
"""


def read(*texts):
    return [StraightTest.read(text) for text in texts]


class SettledTest(unittest.TestCase):

    def check(self, tests):
        """Checks the answer for a list, and returns it."""
        answer = settled(tests)
        self.assertIsInstance(answer, Answer)
        self.assertEqual(settled(tuple(tests)), answer)
        if isinstance(answer, Point):
            self.assertIs(bool(answer), True)
            self.assertIsInstance(answer.numbers, tuple)
            self.assertEqual(len(answer.numbers), len(tests[0]))
            self.assertTrue(all(number.__class__ is int for number in answer.numbers))
            self.assertTrue(all(holds(row, answer.numbers) for row in pairs(tests)), [str(test) for test in tests])
            self.assertIs(shows_none(tests, answer), False)
        else:
            self.assertIs(bool(answer), False)
            self.assertTrue(is_right_paper(pairs(tests), answer), [str(test) for test in tests])
            self.assertIs(shows_none(tests, answer), True)
            self.assertLessEqual(how_many(answer), 5000)
        return answer

    def check_none(self, tests, kind):
        self.assertIsInstance(self.check(tests), kind)

    def test_examples(self):
        run_examples(self, EXAMPLES)

    def test_one_test(self):
        self.assertTrue(self.check(read("1 >= 3")))
        self.assertTrue(self.check(read("-7 >= 999")))
        self.assertTrue(self.check(read("0 >= 0")))
        self.assertTrue(self.check(read("0 0 0 0 0 >= -1")))
        self.assertTrue(self.check(read("99 -98 97 -96 95 >= 999")))
        self.check_none(read("0 0 >= 1"), Sum)

    def test_twenty_tests(self):
        box = []
        for at in range(5):
            unit = [1 if place == at else 0 for place in range(5)]
            box += [StraightTest(unit, 3), -StraightTest(unit, 5), StraightTest(unit, -9), -StraightTest(unit, 9)]
        self.assertTrue(self.check(box))
        box[7] = -StraightTest((0, 1, 0, 0, 0), 2)
        self.check_none(box, Sum)

    def test_equations_without_whole_numbers(self):
        self.check_none(read("2 -2 >= 1", "-2 2 >= -1"), Odd)
        self.check_none(read("6 10 15 >= 7", "-6 -10 -15 >= -7", "1 0 0 >= 0", "-1 0 0 >= 0", "0 1 0 >= 1",
                             "0 -1 0 >= -1"), (Odd, Split))
        self.check_none(read("1 1 >= 1", "-1 -1 >= -1", "1 -1 >= 0", "-1 1 >= 0"), Odd)
        self.check_none(read("1 1 0 >= 0", "-1 -1 0 >= 0", "0 1 1 >= 0", "0 -1 -1 >= 0", "1 0 1 >= 1", "-1 0 -1 >= -1"),
                        Odd)
        self.check_none(read("99 66 33 >= 998", "-99 -66 -33 >= -998"), Odd)

    def test_equations_with_whole_numbers(self):
        self.assertTrue(self.check(read("99 -98 >= 1", "-99 98 >= -1")))
        self.assertTrue(self.check(read("6 10 15 >= 1", "-6 -10 -15 >= -1")))
        self.assertTrue(self.check(read("6 10 15 >= 1", "-6 -10 -15 >= -1", "1 1 0 >= 999", "0 -1 1 >= 999")))
        self.assertTrue(self.check(read("97 89 >= 999", "-97 -89 >= -999", "1 -1 >= 900")))

    def test_equations_of_two_tests_told_by_others(self):
        # 2 * x + 2 * y is 1, but only the sum of the tests tells it.
        self.check_none(read("2 1 >= 0", "0 1 >= 1", "-2 -2 >= -1"), (Split, Sum))
        # x = y = z by a ring of tests, and 2 * x is odd.
        self.check_none(read("1 -1 0 >= 0", "0 1 -1 >= 0", "-1 0 1 >= 0", "1 1 0 >= 1", "-1 0 -1 >= -1"), Split)

    def test_strips(self):
        self.check_none(read("3 >= 1", "-3 >= -2"), Split)
        self.check_none(read("3 -3 >= 1", "-3 3 >= -2"), Split)
        self.check_none(read("99 -33 66 >= 1", "-99 33 -66 >= -32"), Split)
        self.check_none(read("40 -30 >= 1", "-40 30 >= -9", "1 0 >= 999"), Split)
        self.assertTrue(self.check(read("3 -2 >= 1", "-3 2 >= -1", "1 0 >= 10")))
        self.assertTrue(self.check(read("99 -98 >= 55", "-99 98 >= -55", "1 0 >= 999", "0 1 >= -999")))

    def test_fractions_but_no_whole_numbers(self):
        # A triangle and a prism between whole numbers.
        self.check_none(read("3 0 >= 1", "0 3 >= 1", "-3 -3 >= -4"), Split)
        self.check_none(read("2 1 >= 1", "-2 1 >= -1", "0 -3 >= -2"), Split)
        self.check_none(read("3 0 0 >= 1", "0 3 0 >= 1", "-3 -3 0 >= -4", "0 0 1 >= 0"), Split)
        self.check_none(read("4 0 0 >= 1", "0 4 0 >= 1", "0 0 4 >= 1", "-4 -4 -4 >= -5"), Split)
        self.check_none(read("5 0 0 0 >= 1", "0 5 0 0 >= 1", "0 0 5 0 >= 1", "0 0 0 5 >= 1", "-5 -5 -5 -5 >= -6"), Split)

    def test_far_off_points(self):
        # Narrow wedges open far out only.
        self.assertTrue(self.check(read("99 -98 >= 1", "-98 97 >= 1")))
        self.assertTrue(self.check(read("99 -98 >= 999", "-97 96 >= 999", "-1 0 >= 999")))
        self.assertTrue(self.check(read("99 -98 0 0 0 >= 999", "0 99 -98 0 0 >= 999", "0 0 99 -98 0 >= 999",
                                        "0 0 0 99 -98 >= 999", "1 0 0 0 0 >= 999")))
        self.assertTrue(self.check(read("97 -96 0 >= 5", "-97 96 0 >= -5", "0 95 -94 >= 7", "0 -95 94 >= -7",
                                        "0 0 1 >= 999")))

    def test_much_room_and_little_room(self):
        self.assertTrue(self.check(read("99 1 >= -999", "-99 -1 >= -999", "1 99 >= -999", "-1 -99 >= -999")))
        self.check_none(read("49 1 >= 1", "-49 -1 >= -48", "1 49 >= 1", "-1 -49 >= -48"), Split)
        self.assertTrue(self.check(read("50 -49 >= 0", "-50 49 >= -1", "1 1 >= 390", "-1 -1 >= -399")))
        self.check_none(read("50 -48 >= 1", "-50 48 >= -1", "1 1 >= 333", "-1 -1 >= -340"), Odd)

    def test_short_papers_are_found(self):
        # Splits by the second pair alone need few papers, splits by the first one many.
        tests = read("1 0 >= -999", "-1 0 >= -999", "0 4 >= 1", "0 -4 >= -3")
        self.assertEqual(how_many(self.check(tests)), 4)

    def test_long_papers(self):
        answer = self.check(read("30 17 >= 1", "-29 11 >= 1", "-1 -28 >= -29", "17 -41 >= -30"))
        self.assertIsInstance(answer, Answer)

    def test_all_short_lists(self):
        random.seed(8)
        for _ in range(400):
            many = random.randint(1, 3)
            tests = [StraightTest([random.randint(-4, 4) for _ in range(many)], random.randint(-3, 6))
                     for _ in range(random.randint(1, 7))]
            answer = self.check(tests)
            if whole_numbers(tests, 4) is not None:
                self.assertIsInstance(answer, Point)
            if len(tests) < 6:
                self.assertIs(isinstance(answer, Sum), not fractions_keep(pairs(tests)))

    def test_little_room_in_several_unknowns(self):
        random.seed(80)
        for _ in range(120):
            many, reach = random.randint(2, 5), random.choice((3, 9, 99))
            place, parts = [random.randint(-30, 30) for _ in range(many)], random.randint(2, 7)
            tests = []
            while len(tests) < min(19, 2 * many + 2):
                own = [random.randint(-reach, reach) for _ in range(many)]
                amount = sum(part * number for part, number in zip(own, place)) // parts
                amount = max(-900, min(900, amount))
                tests.append(StraightTest(own, amount - random.randint(0, 1)))
                tests.append(-StraightTest(own, amount + random.randint(0, 2)))
            try:
                self.check(tests)
            except TooMany as error:
                self.assertEqual((error.what, error.most), ("papers", 5000))

    def test_points_are_found_wherever_they_are(self):
        random.seed(88)
        for _ in range(120):
            many, reach = random.randint(1, 5), random.choice((3, 99))
            place = [random.randint(-9, 9) for _ in range(many)]
            tests = []
            while len(tests) < 18:
                own = [random.randint(-reach, reach) for _ in range(many)]
                amount = sum(part * number for part, number in zip(own, place))
                if abs(amount) < 999:
                    tests += [StraightTest(own, amount - random.randint(0, 1)), -StraightTest(own, amount)]
            self.assertIsInstance(self.check(tests), Point)

    def test_the_same_answer_again(self):
        for tests in (read("3 >= 1", "-3 >= -2"), read("1 1 >= 1", "1 -1 >= 0"), read("2 -2 >= 1", "-2 2 >= -1")):
            self.assertEqual(settled(tests), settled([StraightTest.read(str(test)) for test in tests]))
            self.assertEqual(settled(tests), settled(tuple(tests)))

    def test_the_list_stays(self):
        tests = read("3 >= 1", "-3 >= -2")
        settled(tests)
        self.assertEqual(tests, read("3 >= 1", "-3 >= -2"))

    def test_too_many(self):
        tests = read("12 16 3 -1 >= -18", "-2 4 6 13 >= -69", "9 -16 -8 6 >= 13", "-6 18 -18 19 >= -77",
                     "-5 20 -6 -5 >= -12", "-13 -82 20 -39 >= 180")
        try:
            self.check(tests)
        except TooMany as error:
            self.assertEqual((error.what, error.most), ("papers", 5000))


class WrongTestsTest(unittest.TestCase):

    def test_no_list(self):
        for value in any_values():
            if not isinstance(value, (list, tuple)) or not 1 <= len(value) <= 20:
                assert_raises(self, BadTest(None), settled, value)

    def test_how_many(self):
        test = StraightTest((1,), 0)
        assert_raises(self, BadTest(None), settled, [])
        assert_raises(self, BadTest(None), settled, [test] * 21)
        assert_raises(self, BadTest(None), settled, [None] * 21)
        self.assertTrue(settled([test] * 20))

    def test_the_first_wrong_one(self):
        one, two = StraightTest((1,), 0), StraightTest((1, 2), 0)
        assert_raises(self, BadTest(1), settled, [one, two])
        assert_raises(self, BadTest(1), settled, (two, one, None))
        assert_raises(self, BadTest(2), settled, [one, one, None, two])
        for value in any_values():
            if not isinstance(value, StraightTest):
                assert_raises(self, BadTest(0), settled, [value])
                assert_raises(self, BadTest(0), settled, (value, one, two))
                assert_raises(self, BadTest(3), settled, [one, one, one, value])


if __name__ == "__main__":
    unittest.main()
