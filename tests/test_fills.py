"""Fill rules, their texts and sizes, and the rows that wrong ones spoil, against the sentences of point [9]."""

import random
import unittest
from itertools import islice, product

import paging
from evenrules.errors import BadNumber, BadRule, BadText, Nothing
from evenrules.fills import (FillRule, Fits, Spill, Spills, judge_fill, levels_for, pages_for, right_sizes, spill_of)
from evenrules.papers import Verdict
from evenrules.rules import Rule, TryRule, WeightRule
from helping import any_values, assert_raises, run_examples

EXAMPLES = """
>>> from evenrules.fills import FillRule, Fits, Spill, Spills, judge_fill, levels_for, pages_for, right_sizes, spill_of
>>> from evenrules.look_fills import shows_fill
>>> half, thin = FillRule((1, 2)), FillRule((2, 3), join_of=3)
>>> [half.least_fill(4), half.width, half.fits(4), judge_fill(half) == Fits(2, ()), judge_fill(FillRule((2, 3), cut_of=2, join_of=3)) == Fits(2, ())]
[2, 2, True, True, True]
>>> [judge_fill(thin) == Spills(6, 3), list(right_sizes(thin, 2, 12)), spill_of(thin, 6) == Spill(6, (6, 6, 6, 6), "put", (4, 3, 6, 6, 6))]
[True, [2, 3, 4, 5, 7], True]
>>> [spill_of(FillRule((2, 3), cut_of=2), 6).behind, pages_for(half, 4, 9), pages_for(thin, 6, 7), levels_for(half, 4, 9), shows_fill(thin, Spills(9, 3)), shows_fill(thin, Spills(7, 3))]
[(7, 4, 4), (3, 4), None, (2, 3), True, False]
"""
HALF, THIN = FillRule((1, 2)), FillRule((2, 3), join_of=3)
GREAT = 10 ** 12


def some_fills(seed, many):
    """Fill rules of all kinds, those near to the edge of right ones among them."""
    random.seed(seed)
    for _ in range(many):
        cut, join = random.randint(1, 5), random.randint(2, 6)
        p, q = random.randint(1, 12), random.randint(1, 12)
        if random.random() < 0.7:
            n = min(cut + 1, join)
            q = random.choice([q, n * random.randint(1, 12 // n)])
            p = max(1, min(12, q * (n - 1) // n + random.choice([-1, 0, 0, 0, 1])))
        yield FillRule((p, q), random.randint(-12, 12), cut_of=cut, join_of=join)


def is_no_fill(value):
    return not isinstance(value, FillRule)


def is_size(value):
    return value.__class__ is int and 2 <= value <= GREAT


class MadeTest(unittest.TestCase):

    def test_examples(self):
        run_examples(self, EXAMPLES)

    def test_classes(self):
        self.assertEqual((FillRule.__bases__, Fits.__bases__, Spills.__bases__, Spill.__bases__),
                         ((Rule,), (Verdict,), (Verdict,), (object,)))
        self.assertNotIsInstance(HALF, WeightRule)

    def test_attributes(self):
        # All numbers within their bounds.
        for p, q, k, cut, join in product(range(1, 13), range(1, 13), range(-12, 13), range(1, 6), range(2, 7)):
            rule = FillRule((p, q), k, cut_of=cut, join_of=join)
            told = (rule.times, rule.plus, rule.cut_of, rule.join_of, rule.width)
            if told != ((p, q), k, cut, join, max(cut, join)):
                self.fail(told)
        named = FillRule(times=(3, 4), plus=-2, join_of=4, cut_of=2)
        self.assertEqual(named, FillRule((3, 4), -2, cut_of=2, join_of=4))
        self.assertEqual((HALF.plus, HALF.cut_of, HALF.join_of), (0, 1, 2))
        with self.assertRaises(TypeError):
            FillRule((1, 2), 0, 1, 2)

    def test_wrong_parts_in_their_order(self):
        for value in [*any_values(), (0, 1), (1, 0), (13, 1), (1, 13), (1, 2, 3), [1, 2], (True, 2), (1, "2"), "1/2"]:
            if not isinstance(value, tuple) or value not in ((1, 2), (1,)) and value != (12, 12):
                assert_raises(self, BadRule("times"), FillRule, value)
                assert_raises(self, BadRule("times"), FillRule, value, value, cut_of=value, join_of=value)
        bounds = {"plus": (-12, 12), "cut_of": (1, 5), "join_of": (2, 6)}
        for part, (low, high) in bounds.items():
            for value in [*any_values(), low - 1, high + 1, str(low), (low,), True]:
                right = value.__class__ is int and low <= value <= high
                if right:
                    self.assertEqual(getattr(FillRule((12, 12), **{part: value}), part), value)
                else:
                    assert_raises(self, BadRule(part), FillRule, (12, 12), **{part: value})
        assert_raises(self, BadRule("plus"), FillRule, (1, 1), 13, cut_of=0, join_of=1)
        assert_raises(self, BadRule("cut_of"), FillRule, (1, 1), 12, cut_of=0, join_of=1)
        assert_raises(self, BadRule("join_of"), FillRule, (1, 1), 12, cut_of=5, join_of=7)

    def test_equal(self):
        parts = [(1, 2), 3, 2, 4]
        made = FillRule(parts[0], parts[1], cut_of=2, join_of=4)
        self.assertTrue(made == FillRule((1, 2), 3, cut_of=2, join_of=4))
        for other in (FillRule((2, 2), 3, cut_of=2, join_of=4), FillRule((1, 3), 3, cut_of=2, join_of=4),
                      FillRule((1, 2), 2, cut_of=2, join_of=4), FillRule((1, 2), 3, cut_of=3, join_of=4),
                      FillRule((1, 2), 3, cut_of=2, join_of=5), FillRule((2, 4), 6, cut_of=2, join_of=4)):
            self.assertFalse(made == other)
        for value in any_values():
            if is_no_fill(value):
                self.assertIs(made == value, False)

    def test_least_fill_and_fits(self):
        for rule in some_fills(1, 300):
            for most in [*range(2, 40), 1000, GREAT - 1, GREAT]:
                self.assertEqual(rule.least_fill(most), paging.numbers_of(rule, most)[1])
                self.assertIs(rule.fits(most), paging.is_right(rule, most))

    def test_wrong_sizes(self):
        for value in [*any_values(), 1, GREAT + 1, True, "4"]:
            if not is_size(value):
                assert_raises(self, BadNumber(value), HALF.least_fill, value)
                assert_raises(self, BadNumber(value), HALF.fits, most=value)


class TextTest(unittest.TestCase):

    def test_texts(self):
        self.assertEqual((str(HALF), str(THIN)), ("fill 1/2 0 1 2", "fill 2/3 0 1 3"))
        for rule in some_fills(2, 200):
            text = f"fill {rule.times[0]}/{rule.times[1]} {rule.plus} {rule.cut_of} {rule.join_of}"
            self.assertEqual(str(rule), text)
            self.assertEqual(FillRule.read(text), rule)
        self.assertEqual(FillRule.read(text="fill 12/12 -12 5 6"), FillRule((12, 12), -12, cut_of=5, join_of=6))

    def test_each_word_otherwise(self):
        right = ["fill", "11/12", "-3", "4", "6"]
        wrong = [
            ["", "Fill", "turn", "try", "fill:", "1/2"],
            ["", "11", "11/12/1", "13/12", "0/12", "1/0", "1/13", "11 /12", "011/12", "-1/2", "a/b", "/", "11/", "1/+2"],
            ["", "-13", "13", "+3", "-03", "-", "3.0", "1/2", "--3", "x"],
            ["", "0", "6", "-1", "04", "1/1", "four", "+4"],
            ["", "1", "7", "06", "2/3", "-6", "6\n"],
        ]
        for at, words in enumerate(wrong):
            for word in words:
                changed = [*right[:at], *word.split(" "), *right[at + 1:]]
                assert_raises(self, BadText(0, at), FillRule.read, " ".join(changed))
        for at in range(len(right)):
            shorter = right[:at]
            assert_raises(self, BadText(0, at), FillRule.read, " ".join(shorter))
            doubled = [*right[:at + 1], *right[at:]]
            # The cut can stand where the join does, and then there is a word too many.
            told = {3: 5}.get(at, at + 1)
            assert_raises(self, BadText(0, told), FillRule.read, " ".join(doubled))
            left_out = [*right[:at], *right[at + 1:]]
            # The cut can stand where the plus does, but then the join is no cut.
            told = {2: 3}.get(at, at)
            assert_raises(self, BadText(0, told), FillRule.read, " ".join(left_out))
        assert_raises(self, BadText(0, 5), FillRule.read, "fill 11/12 -3 4 6 ")
        assert_raises(self, BadText(0, 5), FillRule.read, "fill 11/12 -3 4 6 1 2 3")
        assert_raises(self, BadText(0, 0), FillRule.read, " fill 11/12 -3 4 6")
        assert_raises(self, BadText(0, 1), FillRule.read, "fill  11/12 -3 4 6")

    def test_no_texts(self):
        for value in any_values():
            assert_raises(self, BadText(0, 0), FillRule.read, value)


class JudgedTest(unittest.TestCase):

    def test_all_sizes(self):
        kinds = {True: 0, False: 0}
        for rule in some_fills(3, 400):
            told = judge_fill(rule)
            step = rule.times[1]
            flags = {size: paging.is_right(rule, size) for size in range(2, 1100)}
            # Behind 1,000 all sizes of one remainder are alike.
            spilt = [size for size in range(2, 1000) if not any(flags[more] for more in range(size, 1100, step))]
            if spilt:
                self.assertEqual(told, Spills(min(spilt), step), str(rule))
            else:
                wrong = tuple(size for size in flags if not flags[size])
                self.assertEqual(told, Fits(wrong[-1] + 1 if wrong else 2, wrong), str(rule))
                self.assertIsInstance(told.wrong, tuple)
            self.assertEqual(judge_fill(rule), told)
            self.assertLess(told.size, 1000)
            kinds[bool(told)] += 1
        self.assertGreater(min(kinds.values()), 100)

    def test_sizes_by_their_remainders(self):
        for rule in some_fills(4, 60):
            step = rule.times[1]
            for first in range(1000, 1000 + step):
                later = {paging.is_right(rule, first + step * times) for times in (0, 1, 2, 30, 10 ** 6)}
                self.assertEqual(len(later), 1)
                self.assertIs(rule.fits(first + step * 10 ** 9), *later)

    def test_right_sizes(self):
        for rule in some_fills(5, 150):
            for low, high in ((2, 60), (17, 17), (30, 29), (60, 2), (990, 1040), (GREAT - 30, GREAT), (GREAT, 2)):
                wanted = [size for size in range(low, high + 1) if paging.is_right(rule, size)]
                self.assertEqual(list(right_sizes(rule, low, high)), wanted)
        self.assertEqual(list(right_sizes(high=3, low=2, rule=HALF)), [2, 3])

    def test_right_sizes_are_told_when_they_are_requested(self):
        self.assertEqual(list(islice(right_sizes(HALF, 5, GREAT), 3)), [5, 6, 7])
        # No size above 7 is right here: the row ends, though the last size that is asked for is great.
        self.assertEqual(list(right_sizes(THIN, 2, GREAT)), [2, 3, 4, 5, 7])
        self.assertEqual(list(right_sizes(FillRule((12, 1)), 2, GREAT)), [])

    def test_wrong_arguments(self):
        for value in [*any_values(), 1, GREAT + 1, True]:
            if is_no_fill(value):
                assert_raises(self, BadRule("rule"), judge_fill, value)
                assert_raises(self, BadRule("rule"), lambda: next(right_sizes(value, value, value)))
                assert_raises(self, BadRule("rule"), lambda: next(right_sizes(value, 2, 3)))
            if not is_size(value):
                assert_raises(self, BadNumber(value), lambda: next(right_sizes(HALF, value, None)))
                assert_raises(self, BadNumber(value), lambda: list(right_sizes(HALF, 2, value)))
        assert_raises(self, BadNumber(0), lambda: list(right_sizes(HALF, 0, 1)))


class SpillTest(unittest.TestCase):

    def test_rows_that_are_spilt(self):
        deeds = {"put": 0, "take": 0}
        for rule in some_fills(6, 400):
            for most in (2, 3, 4, 5, 6, 7, 11, 24, 100):
                _, least, cut, join, width = paging.numbers_of(rule, most)
                if not 1 <= least <= most:
                    assert_raises(self, BadNumber(most), spill_of, rule, most)
                elif paging.is_right(rule, most):
                    assert_raises(self, Nothing(), spill_of, rule, most)
                else:
                    told = spill_of(rule, most)
                    self.check(rule, told)
                    row = [most] * (width + 1) if cut + 1 <= join else [least] * (width + 2)
                    self.assertEqual((told.most, told.fills, told.deed),
                                     (most, tuple(row), "put" if cut + 1 <= join else "take"))
                    deeds[told.deed] += 1
        self.assertGreater(min(deeds.values()), 100)

    def check(self, rule, told):
        """That the row keeps the rule, is not young, and is spoilt by the deed."""
        pages = [[None] * fill for fill in told.fills]
        self.assertTrue(paging.keeps(rule, told.most, pages))
        self.assertGreater(len(pages), rule.width)
        if told.deed == "put":
            pages, _ = paging.put(rule, told.most, pages, 0, None)
        else:
            pages, _ = paging.take(rule, told.most, pages, 0)
        self.assertEqual(told.behind, tuple(len(page) for page in pages))
        self.assertGreater(len(pages), rule.width)
        self.assertFalse(paging.keeps(rule, told.most, pages))

    def test_great_sizes(self):
        for rule in (THIN, FillRule((11, 12), cut_of=5, join_of=6), FillRule((2, 3), cut_of=2)):
            for most in (GREAT, GREAT - 1, GREAT - 2):
                if not paging.is_right(rule, most):
                    told = spill_of(rule, most)
                    self.assertEqual(sum(told.behind), sum(told.fills) + (1 if told.deed == "put" else -1))
                    self.assertTrue(min(told.behind) < rule.least_fill(most) or max(told.behind) > most)

    def test_wrong_arguments(self):
        for value in [*any_values(), 1, GREAT + 1, True]:
            if is_no_fill(value):
                assert_raises(self, BadRule("rule"), spill_of, value, 4)
                assert_raises(self, BadRule("rule"), spill_of, value, value)
            if not is_size(value):
                assert_raises(self, BadNumber(value), spill_of, HALF, value)
        assert_raises(self, BadNumber(5), spill_of, FillRule((12, 1)), 5)
        assert_raises(self, BadNumber(5), spill_of, most=5, rule=FillRule((1, 12), -12))


class PagesTest(unittest.TestCase):

    def test_pages_for_small_numbers(self):
        for rule in [HALF, THIN, *some_fills(7, 120)]:
            for most in (2, 3, 6, 9):
                _, least, cut, join, _ = paging.numbers_of(rule, most)
                if not 1 <= least <= most:
                    assert_raises(self, BadNumber(most), pages_for, rule, most, 5)
                    continue
                for many in range(50):
                    found = [count for count in range(many + 1) if count * least <= many <= count * most]
                    wanted = (found[0], found[-1]) if found else None
                    self.assertEqual(pages_for(rule, most, many), wanted)
                    if paging.is_right(rule, most) and many >= (min(cut + 1, join) - 1) * least:
                        self.assertIsNotNone(wanted)

    def test_levels_for_small_numbers(self):
        for rule in [HALF, THIN, *some_fills(8, 120)]:
            for most in (2, 3, 4, 6, 9):
                _, least, _, _, width = paging.numbers_of(rule, most)
                if not 1 <= least <= most:
                    assert_raises(self, BadNumber(most), levels_for, rule, most, 5)
                    continue
                for many in range(1, 60):
                    rows = len(paging.built(rule, most, range(many)).rows)
                    self.assertEqual(levels_for(rule, most, many), (rows, self.bound(most, least, width, many)))
                self.assertEqual(levels_for(rule, most, 0), (0, 0))

    def bound(self, most, least, width, many):
        """The bound word by word."""
        a = min(least, (most + 1) // 2)
        if a == 1:
            return None
        steps, x = 0, many
        while x != 1:
            x = x // least if x // least > width else max(1, min(width, x // a))
            steps += 1
        return max(1, steps)

    def test_great_numbers(self):
        great = 10 ** 60
        self.assertEqual(pages_for(HALF, 4, great), (great // 4, great // 2))
        self.assertEqual(pages_for(HALF, GREAT, great), (10 ** 48, 2 * 10 ** 48))
        self.assertEqual(levels_for(HALF, 10, great), (60, self.bound(10, 5, 2, great)))
        self.assertEqual(levels_for(HALF, 2, great), (200, None))
        self.assertEqual(levels_for(HALF, GREAT, great), (5, self.bound(GREAT, GREAT // 2, 2, great)))
        for rule in some_fills(9, 80):
            for most in (7, 24, 1000, GREAT):
                _, least, _, _, width = paging.numbers_of(rule, most)
                if 1 <= least <= most:
                    for many in (great, great - 1, 10 ** 20 + 3):
                        rows, left = 1, -(-many // most)
                        while left > 1:
                            rows, left = rows + 1, -(-left // most)
                        self.assertEqual(levels_for(rule, most, many), (rows, self.bound(most, least, width, many)))
                        fewest, greatest = -(-many // most), many // least
                        wanted = (fewest, greatest) if fewest <= greatest else None
                        self.assertEqual(pages_for(rule, most, many), wanted)

    def test_wrong_arguments(self):
        for action in (pages_for, levels_for):
            for value in [*any_values(), 1, GREAT + 1, True, -1, 10 ** 60 + 1]:
                if is_no_fill(value):
                    assert_raises(self, BadRule("rule"), action, value, value, value)
                    assert_raises(self, BadRule("rule"), action, value, 4, 4)
                if not is_size(value):
                    assert_raises(self, BadNumber(value), action, HALF, value, None)
                if not (value.__class__ is int and 0 <= value <= 10 ** 60):
                    assert_raises(self, BadNumber(value), action, HALF, 4, value)
            assert_raises(self, BadNumber(3), action, many=-1, most=3, rule=FillRule((12, 1)))
            assert_raises(self, BadNumber(3), action, FillRule((1, 12)), 3, None)
        self.assertEqual(pages_for(many=0, most=2, rule=HALF), (0, 0))


if __name__ == "__main__":
    unittest.main()
