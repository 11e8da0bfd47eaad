"""The looker: right papers of every kind, spoilt ones, long and deep ones, values that are no papers."""

import random
import time
import unittest

from evenrules.errors import BadTest
from evenrules.look_settled import shows_none
from evenrules.settled import Odd, Point, Split, Sum, Top, settled
from evenrules.straight import Test as StraightTest
from helping import any_values, assert_raises, deep_tuple, is_right_paper, pairs


def read(*texts):
    return [StraightTest.read(text) for text in texts]


ENDS = read("1 >= 3", "-1 >= -2")
EVEN = read("2 -2 >= 1", "-2 2 >= -1")
THIRDS = read("3 >= 1", "-3 >= -2")
TRIANGLE = read("3 0 >= 1", "0 3 >= 1", "-3 -3 >= -4")
SINGLES = read("1 0 >= 0", "-1 0 >= 0", "0 2 >= 1", "0 -2 >= -1")


def told(rows):
    """Tests with these numbers of amounts of x, where 2 * y is 1."""
    return [StraightTest((1, 0), 0), StraightTest((-1, 0), 1 - rows), *SINGLES[2:]]


def nested(depth):
    """A paper for SINGLES with an odd sum within so many splits."""
    paper = Odd((0, 0, 1, 0) + (0, 0) * depth, 2)
    for at in range(depth - 1, -1, -1):
        paper = Split(0, (1, 1, 0, 0) + (0, 0) * at, (paper,))
    return paper


def spoilt_numbers(numbers):
    """Other values in the place of a tuple of integers."""
    for at, number in enumerate(numbers):
        for other in (number + 1, number - 1, -number, number * 2, True, None, str(number), [number]):
            yield (*numbers[:at], other, *numbers[at + 1:])
    yield from (numbers[:-1], (*numbers, 0), list(numbers), None, numbers + numbers, tuple(reversed(numbers)))


def spoilt(paper):
    """Papers with another value in one place."""
    for weights in spoilt_numbers(paper.weights):
        if isinstance(paper, Sum):
            yield Sum(weights)
        elif isinstance(paper, Odd):
            yield Odd(weights, paper.divisor)
        else:
            yield Split(paper.at, weights, paper.papers)
    if isinstance(paper, Odd):
        for divisor in (paper.divisor + 1, 1, 0, -paper.divisor, True, None, "2", 2 * paper.divisor):
            yield Odd(paper.weights, divisor)
    if isinstance(paper, Split):
        for at in (paper.at + 1, paper.at - 1, -1, -2, 99, True, False, None, str(paper.at)):
            yield Split(at, paper.weights, paper.papers)
        for papers in spoilt_papers(paper.papers):
            yield Split(paper.at, paper.weights, papers)


def spoilt_papers(papers):
    yield from (papers[:-1], papers[1:], (*papers, papers[-1]), list(papers), None, papers[::-1], ())
    for at, paper in enumerate(papers):
        for other in [None, Point((1,)), Sum((0,) * 40), *spoilt(paper)]:
            yield (*papers[:at], other, *papers[at + 1:])


class RightTest(unittest.TestCase):

    def test_sums(self):
        self.assertIs(shows_none(ENDS, Sum((1, 1))), True)
        self.assertIs(shows_none(tuple(ENDS), Sum((10 ** 69, 10 ** 69))), True)
        self.assertIs(shows_none(ENDS, Sum((1, 2))), False)
        self.assertIs(shows_none(ENDS, Sum((0, 0))), False)
        self.assertIs(shows_none(ENDS, Sum((-1, -1))), False)
        self.assertIs(shows_none(read("1 >= 2", "-1 >= -2"), Sum((1, 1))), False)
        self.assertIs(shows_none(read("0 >= 1"), Sum((1,))), True)
        self.assertIs(shows_none(read("0 >= 1", "1 >= 0", "-1 >= -5"), Sum((6, 1, 1))), True)
        self.assertIs(shows_none(read("0 >= 1", "1 >= 0", "-1 >= -5"), Sum((5, 1, 1))), False)

    def test_odd_sums(self):
        self.assertIs(shows_none(EVEN, Odd((1, 0), 2)), True)
        self.assertIs(shows_none(EVEN, Odd((0, -3), 2)), True)
        self.assertIs(shows_none(EVEN, Odd((3, 4), 2)), True)
        self.assertIs(shows_none(EVEN, Odd((1, 1), 2)), False)
        self.assertIs(shows_none(EVEN, Odd((1, 0), 4)), False)
        self.assertIs(shows_none(EVEN, Odd((2, 0), 4)), True)
        self.assertIs(shows_none(EVEN[:1], Odd((1,), 2)), False)
        self.assertIs(shows_none(read("2 -2 >= 1", "-2 2 >= -2"), Odd((1, 0), 2)), False)
        self.assertIs(shows_none([*EVEN, *read("0 1 >= 3")], Odd((1, 0, 0), 2)), True)
        self.assertIs(shows_none([*EVEN, *read("0 2 >= 3")], Odd((1, 0, 1), 2)), False)

    def test_splits(self):
        # The first test is an equation together with the last one where its amount is its bound, but only there.
        first, second = Odd((1, 0, 0, 0), 3), Odd((0, 0, 1, 0), 3)
        self.assertIs(shows_none(THIRDS, Split(0, (1, 1), (first, second))), True)
        self.assertIs(shows_none(THIRDS, Split(0, (1, 1), (second, second))), True)
        self.assertIs(shows_none(THIRDS, Split(0, (1, 1), (first, first))), False)
        self.assertIs(shows_none(THIRDS, Split(0, (1, 1), (second, first))), False)
        self.assertIs(shows_none(THIRDS, Split(1, (1, 1), (second, first))), True)
        self.assertIs(shows_none(THIRDS, Split(0, (2, 2), (first, second))), True)
        self.assertIs(shows_none(THIRDS, Split(0, (1, 1), (second,))), False)
        self.assertIs(shows_none(THIRDS, Split(0, (1, 1), (second, second, second))), False)

    def test_splits_without_papers(self):
        # The amounts end below the bound: the sum is above 0.
        self.assertIs(shows_none(ENDS, Split(0, (1, 1), ())), True)
        self.assertIs(shows_none(ENDS, Split(1, (1, 1), ())), True)
        self.assertIs(shows_none(ENDS, Split(0, (1, 1), (Sum((1, 1, 0, 0)),))), False)
        self.assertIs(shows_none(THIRDS, Split(0, (1, 1), ())), False)
        for at in (2, 3, -1, -2):
            self.assertIs(shows_none(ENDS, Split(at, (1, 1), ())), False)
        self.assertIs(shows_none([*ENDS, *read("1 >= 0")], Split(2, (1, 1, 0), ())), False)

    def test_splits_by_a_told_test(self):
        inner = Odd((0, 0, 1, 0, 0, 0), 3)
        again = Split(2, (0, 0, 1, 1), (inner,))
        paper = Split(0, (1, 1), (again, Split(3, (0, 0, 1, 1), (inner,))))
        self.assertIs(shows_none(THIRDS, paper), True)

    def test_what_the_package_says(self):
        for tests in (ENDS, EVEN, THIRDS, TRIANGLE, SINGLES):
            self.assertIs(shows_none(tests, settled(tests)), True)

    def test_great_numbers(self):
        great = 10 ** 69
        tests = [StraightTest((great,), 1), StraightTest((-great,), 2 - great)]
        self.assertIs(shows_none(tests, Split(0, (1, 1), ())), False)
        self.assertIs(shows_none([test * great for test in ENDS], Sum((great, great))), True)
        tests = [StraightTest((2 * great, 4), great + 1), StraightTest((-2 * great, -4), -great - 1)]
        self.assertIs(shows_none(tests, Odd((1, 0), 2)), True)


class SpoiltTest(unittest.TestCase):

    def test_spoilt_in_one_place(self):
        for tests in (ENDS, EVEN, THIRDS, TRIANGLE, SINGLES):
            rows, many = pairs(tests), 0
            for paper in spoilt(settled(tests)):
                answer = shows_none(tests, paper)
                self.assertIs(answer, is_right_paper(rows, paper), (vars(paper), [str(test) for test in tests]))
                many += answer is False
            self.assertGreater(many, 10)

    def test_papers_of_other_lists(self):
        random.seed(3)
        lists = [ENDS, EVEN, THIRDS, TRIANGLE, SINGLES]
        for one in lists:
            for other in lists:
                paper = settled(other)
                self.assertIs(shows_none(one, paper), is_right_paper(pairs(one), paper))

    def test_kinds_count(self):
        self.assertIs(shows_none(ENDS, Sum([1, 1])), False)
        self.assertIs(shows_none(ENDS, Sum((True, True))), False)
        self.assertIs(shows_none(ENDS, Sum((1, True))), False)
        self.assertIs(shows_none(EVEN, Odd([1, 0], 2)), False)
        self.assertIs(shows_none(EVEN, Odd((1, False), 2)), False)
        self.assertIs(shows_none(THIRDS, Split(False, (1, 1), settled(THIRDS).papers)), False)
        self.assertIs(shows_none(THIRDS, Split(0, [1, 1], settled(THIRDS).papers)), False)
        self.assertIs(shows_none(THIRDS, Split(0, (1, 1), list(settled(THIRDS).papers))), False)

    def test_values_of_all_kinds(self):
        for tests in (ENDS, EVEN, THIRDS):
            for value in [*any_values(), deep_tuple(2000), Point((1,)), Top(1, 2, (3,)), "Sum", (1, 1), Sum, tests]:
                right = isinstance(value, (Sum, Split, Odd)) and is_right_paper(pairs(tests), value)
                self.assertIs(shows_none(tests, value), right)

    def test_values_of_all_kinds_in_papers(self):
        for value in any_values():
            for paper in (Sum(value), Odd(value, 2), Split(0, value, ()), Split(0, (1, 1), value)):
                self.assertIs(shows_none(THIRDS, paper), False)
            if value.__class__ is not int:
                self.assertIs(shows_none(EVEN, Odd((1, 0), value)), False)
                self.assertIs(shows_none(THIRDS, Split(value, (1, 1), settled(THIRDS).papers)), False)


class LimitsTest(unittest.TestCase):

    def test_five_thousand_papers(self):
        inner = Odd((0, 0, 1, 0, 0, 0), 2)
        for many, right in ((4998, True), (4999, True), (5000, False), (5001, False), (9000, False)):
            self.assertIs(shows_none(told(many), Split(0, (1, 1, 0, 0), (inner,) * many)), right)

    def test_five_thousand_papers_with_the_same_sum(self):
        last = StraightTest((0,), 1)
        paper = Split(0, (1, 1, 0), (Sum((0, 0, 1, 0, 0)),) * 4999)
        self.assertIs(shows_none([StraightTest((1,), 0), StraightTest((-1,), -4998), last], paper), True)
        paper = Split(0, (1, 1, 0), (Sum((0, 0, 1, 0, 0)),) * 5000)
        self.assertIs(shows_none([StraightTest((1,), 0), StraightTest((-1,), -4999), last], paper), False)

    def test_many_calls_at_the_greatest_papers_take_no_time(self):
        tests = [StraightTest((1,), 0), StraightTest((-1,), -4998), StraightTest((0,), 1)]
        for paper in (Sum((0, 0, 1, 0, 0)), Odd((0, 0, 0, 1, 0), 5000)):
            split = Split(0, (1, 1, 0), (paper,) * 4999)
            start = time.process_time()
            for _ in range(100):
                shows_none(tests, split)
            # A tenth of what it would take if each paper were looked at on its own.
            self.assertLess(time.process_time() - start, 1)

    def test_one_wrong_paper_among_many(self):
        tests = [StraightTest((1,), 0), StraightTest((-1,), -99), StraightTest((0,), 1)]
        good, twin = Sum((0, 0, 1, 0, 0)), Sum((0, 0, 1, 0, 0))
        for at in range(100):
            for other, right in ((twin, True), (Sum((0, 0, True, 0, 0)), False), (Sum((0, 0, 0, 0, 0)), False),
                                 (None, False), (Point((1,)), False)):
                papers = (good,) * at + (other,) + (good,) * (99 - at)
                self.assertIs(shows_none(tests, Split(0, (1, 1, 0), papers)), right)

    def test_the_same_paper_is_not_right_for_all_amounts(self):
        # x is 0 to 9, and at least 4: a sum for the amounts up to 3, another one for those up to 9.
        tests = [StraightTest((1,), 0), StraightTest((-1,), -9), StraightTest((1,), 4), StraightTest((0,), 0)]
        low, high = Sum((0, 0, 1, 0, 0, 1)), Sum((0, 0, 0, 1, 0, 0))
        for many in range(11):
            papers = (low,) * many + (high,) * (10 - many)
            answer = shows_none(tests, Split(0, (1, 1, 0, 0), papers))
            self.assertIs(answer, is_right_paper(pairs(tests), Split(0, (1, 1, 0, 0), papers)))
            self.assertIs(answer, False)
        tests[3] = StraightTest((0,), 1)
        for many in range(11):
            papers = (low,) * many + (high,) * (10 - many)
            self.assertIs(shows_none(tests, Split(0, (1, 1, 0, 0), papers)), many <= 4)

    def test_a_sum_that_is_right_for_great_amounts(self):
        # x is 0 to 9, and at most 5: the sum is right from the amount 6 on.
        tests = [StraightTest((1,), 0), StraightTest((-1,), -9), StraightTest((-1,), -5), StraightTest((0,), 1)]
        low, high = Sum((0, 0, 0, 1, 0, 0)), Sum((0, 0, 1, 0, 1, 0))
        for many in range(11):
            papers = (low,) * many + (high,) * (10 - many)
            self.assertIs(shows_none(tests, Split(0, (1, 1, 0, 0), papers)), many >= 6)

    def test_weights_below_nothing(self):
        tests = read("1 >= 0", "-1 >= -5", "1 >= 3")
        self.assertIs(shows_none(tests, Sum((-1, 0, 1))), False)
        self.assertIs(shows_none([*tests, *read("-1 >= -2")], Sum((0, 0, 1, 1))), True)
        self.assertIs(shows_none([*tests, *read("-1 >= -2")], Sum((-1, -1, 2, 2))), False)
        self.assertIs(shows_none([*tests, *read("-1 >= -2")], Split(2, (-1, 0, 2, 1), ())), False)
        self.assertIs(shows_none([*tests, *read("-1 >= -2")], Split(2, (0, 0, 1, 1), ())), True)

    def test_the_same_odd_sum_is_not_right_for_all_amounts(self):
        # 3 * x is 1 to 5; for 3 it is whole.
        tests = [StraightTest((3,), 1), StraightTest((-3,), -5), StraightTest((0,), 1)]
        odd, other = Odd((0, 0, 0, 1, 0), 3), Sum((0, 0, 1, 0, 0))
        for papers, right in (((odd, odd, other, odd, odd), True), ((odd,) * 5, False), ((odd,) * 2 + (other,) * 3, True),
                              ((other, odd, odd, odd, other), False)):
            self.assertIs(shows_none(tests, Split(0, (1, 1, 0), papers)), right)

    def test_an_opposite_that_is_there_for_one_amount(self):
        # The third test has its opposite in the list only where the amount of the second one is at its bound.
        tests = [StraightTest((2,), -3), StraightTest((-2,), 1), StraightTest((2,), 1), StraightTest((0,), 1)]
        odd, other = Odd((0, 0, 1, 0, 0, 0), 2), Sum((0, 0, 0, 1, 0, 0))
        tests[1] = StraightTest((-2,), -1)
        self.assertIs(shows_none(tests, Split(1, (1, 1, 0, 0), (odd, other, other, other, other))), True)
        self.assertIs(shows_none(tests, Split(1, (1, 1, 0, 0), (odd, odd, other, other, other))),
                      is_right_paper(pairs(tests), Split(1, (1, 1, 0, 0), (odd, odd, other, other, other))))

    def test_five_thousand_papers_in_several_splits(self):
        pair = Split(4, (0, 0, 0, 0, 1, 1), (Odd((0, 0, 1, 0, 0, 0, 0, 0), 2),))
        for many, right in ((2499, True), (2500, False)):
            self.assertIs(shows_none(told(many), Split(0, (1, 1, 0, 0), (pair,) * many)), right)

    def test_nested_papers(self):
        for depth in (0, 1, 5, 19, 20):
            self.assertIs(shows_none(SINGLES, nested(depth)), True)
        for depth in (21, 22, 50, 3000):
            self.assertIs(shows_none(SINGLES, nested(depth)), False)

    def test_nested_splits_without_papers(self):
        tests = read("1 0 >= 0", "-1 0 >= 0", "0 1 >= 1", "0 -1 >= 0")
        for splits, right in ((1, True), (20, True), (21, True), (22, False), (23, False)):
            paper = Split(2, (0, 0, 1, 1) + (0, 0) * (splits - 1), ())
            for at in range(splits - 2, -1, -1):
                paper = Split(0, (1, 1, 0, 0) + (0, 0) * at, (paper,))
            self.assertIs(shows_none(tests, paper), right)

    def test_the_same_paper_in_many_places(self):
        # Few objects, but more papers than could ever be looked at.
        tests = [StraightTest((1, 0), 0), StraightTest((-1, 0), -9), *SINGLES[2:]]
        paper = Odd((0, 0, 1, 0) + (0, 0) * 15, 2)
        for at in range(14, -1, -1):
            paper = Split(0, (1, 1, 0, 0) + (0, 0) * at, (paper,) * 10)
        self.assertIs(shows_none(tests, paper), False)


class WrongTestsTest(unittest.TestCase):

    def test_wrong_tests(self):
        test, paper = StraightTest((1,), 0), Sum((1,))
        for value in any_values():
            if not isinstance(value, (list, tuple)) or not 1 <= len(value) <= 20:
                assert_raises(self, BadTest(None), shows_none, value, paper)
            if not isinstance(value, StraightTest):
                assert_raises(self, BadTest(1), shows_none, [test, value, None], value)
        assert_raises(self, BadTest(None), shows_none, [test] * 21, None)
        assert_raises(self, BadTest(2), shows_none, [test, test, StraightTest((1, 1), 0)], paper)
        self.assertIs(shows_none([test] * 20, paper), False)


if __name__ == "__main__":
    unittest.main()
