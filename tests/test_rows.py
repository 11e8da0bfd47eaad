"""Rows of pages, against a playing of point [9] with the entries themselves."""

import random
import unittest

import paging
from evenrules.errors import BadNumber, BadOther, BadPages, BadRule, TooMany
from evenrules.fills import FillRule
from evenrules.rows import Row
from helping import any_values, assert_raises, run_examples
from test_fills import GREAT, HALF, THIN, is_no_fill, is_size, some_fills

EXAMPLES = """
>>> from evenrules.fills import FillRule, Fits, Spill, Spills, judge_fill, levels_for, pages_for, right_sizes, spill_of
>>> from evenrules.rows import Row
>>> half, thin = FillRule((1, 2)), FillRule((2, 3), join_of=3)
>>> row = Row(half, 4, (3, 3, 4))
>>> [row.put(10)[0].fills, row.put(10)[1], row.put(0)[0].fills, row.take(0)[0].fills, row.take(0)[1], row.is_young, row.page_of(6)]
[(3, 3, 3, 2), ('more', 3), (4, 3, 4), (2, 3, 4), None, False, 2]
>>> [Row(half, 4, (3, 3, 3, 2)).take(10)[0].fills, Row(half, 4, (3, 3, 2, 2)).take(9) == (Row(half, 4, (3, 3, 3)), ("fewer", 3)), Row(half, 4, (4, 4)).put(3)[0].fills]
[(3, 3, 2, 2), True, (3, 3, 3)]
"""


def rules_and_sizes(seed, many):
    """Pairs of a fill rule and a size that rows can have."""
    random.seed(seed)
    found = []
    for rule in some_fills(seed, many):
        for most in random.sample(range(2, 14), 4):
            if 1 <= paging.numbers_of(rule, most)[1] <= most:
                found.append((rule, most))
    return found


def pages_of(fills):
    """Pages with entries that are all different."""
    entries = iter(range(sum(fills)))
    return [[next(entries) for _ in range(fill)] for fill in fills]


def some_rows(rule, most):
    """Rows of all kinds: young and old ones, kept and not kept."""
    _, least, _, _, width = paging.numbers_of(rule, most)
    rows = [(), (1,), (most,), (most + 1,), (least,) * (width + 2), (most,) * (width + 1), (least,) * width, (1,) * (width + 3)]
    for many in range(1, width + 5):
        rows.append(tuple(random.randint(1, most) for _ in range(many)))
        rows.append(tuple(random.randint(least, most) for _ in range(many)))
        rows.append(tuple(random.choice([least, least, most, most + 2, 1]) for _ in range(many)))
    return rows


class DeedsTest(unittest.TestCase):

    def test_examples(self):
        run_examples(self, EXAMPLES)

    def test_all_deeds(self):
        kinds = {}
        for rule, most in rules_and_sizes(61, 70):
            for fills in some_rows(rule, most):
                self.check_deeds(rule, most, fills, kinds)
        self.assertGreater(min(kinds.values()), 100)
        self.assertEqual(len(kinds), 4)

    def check_deeds(self, rule, most, fills, kinds):
        row = Row(rule, most, fills)
        pages = pages_of(fills)
        for ahead in range(sum(fills) + 1):
            behind, deed = paging.put(rule, most, pages, ahead, "new")
            told = row.put(ahead)
            self.check(told, rule, most, behind, deed)
            self.assertEqual(sum(behind, []).index("new"), ahead)
            kinds["put", deed is None] = kinds.get(("put", deed is None), 0) + 1
        for index in range(sum(fills)):
            behind, deed = paging.take(rule, most, pages, index)
            self.check(row.take(index), rule, most, behind, deed)
            self.assertNotIn(index, sum(behind, []))
            kinds["take", deed is None] = kinds.get(("take", deed is None), 0) + 1
        self.assertEqual(row.fills, fills)

    def check(self, told, rule, most, behind, deed):
        self.assertIsInstance(told, tuple)
        row, its = told
        self.assertIs(row.__class__, Row)
        self.assertEqual((row.fill_rule, row.most, row.fills), (rule, most, tuple(len(page) for page in behind)))
        self.assertEqual((its, its.__class__), (deed, deed.__class__))

    def test_right_rules_keep_rows(self):
        many = 0
        for rule, most in rules_and_sizes(62, 150):
            if not paging.is_right(rule, most):
                continue
            for fills in some_rows(rule, most):
                row = Row(rule, most, fills)
                if row.keeps:
                    many += 1
                    for at in range(row.total + 1):
                        self.assertIs(row.put(at)[0].keeps, True)
                    for at in range(row.total):
                        self.assertIs(row.take(at)[0].keeps, True)
        self.assertGreater(many, 300)

    def test_wrong_rules_are_spoilt_by_one_deed(self):
        many = 0
        for rule, most in rules_and_sizes(63, 200):
            if paging.is_right(rule, most):
                continue
            many += 1
            _, least, cut, join, width = paging.numbers_of(rule, most)
            if cut + 1 <= join:
                row, behind = Row(rule, most, [most] * (width + 1)), Row(rule, most, [most] * (width + 1)).put(0)[0]
            else:
                row, behind = Row(rule, most, [least] * (width + 2)), Row(rule, most, [least] * (width + 2)).take(0)[0]
            self.assertEqual((row.keeps, row.is_young, behind.keeps), (True, False, False))
        self.assertGreater(many, 100)

    def test_rows_of_deeds(self):
        random.seed(64)
        for rule, most in rules_and_sizes(65, 60):
            row, pages = Row(rule, most), []
            for number in range(120):
                total = row.total
                if total == 0 or random.random() < (0.75 if number < 70 else 0.2):
                    at = random.choice([0, total, random.randint(0, total)])
                    pages, deed = paging.put(rule, most, pages, at, number)
                    told = row.put(at)
                else:
                    at = random.choice([0, total - 1, random.randint(0, total - 1)])
                    pages, deed = paging.take(rule, most, pages, at)
                    told = row.take(at)
                self.check(told, rule, most, pages, deed)
                row = told[0]
                if paging.is_right(rule, most):
                    self.assertIs(row.keeps, True)

    def test_no_page_and_one(self):
        empty = Row(HALF, 4)
        self.assertEqual((empty.put(0)[0].fills, empty.put(0)[1]), ((1,), ("more", 0)))
        self.assertEqual((Row(HALF, 4, (1,)).take(0)[0].fills, Row(HALF, 4, (1,)).take(0)[1]), ((), ("fewer", 0)))
        self.assertEqual(Row(HALF, 4, (4,)).put(4), (Row(HALF, 4, (3, 2)), ("more", 1)))
        self.assertEqual(Row(HALF, 4, (3, 2)).take(0), (Row(HALF, 4, (4,)), ("fewer", 1)))
        self.assertEqual(Row(HALF, 4, (4, 4)).put(8), (Row(HALF, 4, (3, 3, 3)), ("more", 2)))

    def test_many_pages(self):
        for rule in (HALF, THIN, FillRule((1, 3), cut_of=4, join_of=5)):
            row = Row(rule, 6, (6,) * 2000)
            self.assertIs(row.keeps, True)
            for ahead in (0, 1, 6000, 12000):
                assert_raises(self, TooMany("pages", 2000), row.put, ahead)
            self.assertEqual(len(row.take(11999)[0]), 2000)
            one_fewer = Row(rule, 6, (6,) * 1999)
            behind, deed = one_fewer.put(6000)
            # The leftmost pages of the group that contain the page with the index 999.
            end = 999 - rule.cut_of + 1 + rule.cut_of
            self.assertEqual((len(behind), deed), (2000, ("more", end)))
            loose = Row(rule, 6, (5,) * 2000)
            self.assertEqual(loose.put(0)[0].fills, (6,) + (5,) * 1999)
            self.assertEqual(loose.put(10000)[0].fills, (5,) * 1999 + (6,))

    def test_great_fills(self):
        great = 10 ** 15
        rule = FillRule((1, 2), cut_of=2, join_of=3)
        row = Row(rule, GREAT, (great,) * 5)
        self.assertEqual((row.total, row.keeps, row.is_young), (5 * great, False, False))
        self.assertEqual(row.put(5 * great)[0].fills, (great,) * 3 + ((2 * great + 1) // 3,) * 3)
        self.assertEqual(row.put(0)[0].fills, ((2 * great + 1) // 3,) * 3 + (great,) * 3)
        self.assertEqual(row.take(0)[0].fills, (great - 1,) + (great,) * 4)
        self.assertEqual(row.page_of(3 * great), 3)
        young = Row(rule, GREAT, (great, great))
        self.assertEqual(young.take(0)[0].fills, (great, great - 1))


class AskedTest(unittest.TestCase):

    def test_attributes_and_properties(self):
        for rule, most in rules_and_sizes(66, 60):
            for fills in some_rows(rule, most):
                row = Row(rule, most, list(fills))
                self.assertEqual((row.fill_rule, row.most, row.fills, row.fills.__class__), (rule, most, fills, tuple))
                self.assertEqual((len(row), list(row), row.total), (len(fills), list(fills), sum(fills)))
                self.assertIs(row.is_young, len(fills) <= max(rule.cut_of, rule.join_of))
                self.assertIs(row.keeps, paging.keeps(rule, most, pages_of(fills)))
                self.assertEqual([row.page_of(index) for index in range(sum(fills))],
                                 [at for at, fill in enumerate(fills) for _ in range(fill)])
        self.assertEqual(Row(most=4, rule=HALF, fills=(1, 2)).fills, (1, 2))
        self.assertEqual((Row(HALF, 4).fills, len(Row(HALF, 4)), Row(HALF, 4).keeps, Row(HALF, 4).is_young),
                         ((), 0, True, True))

    def test_young_rows_keep_less(self):
        rule = FillRule((3, 4), cut_of=2, join_of=3)
        # The least fill of 8 is 6; a young row of several pages keeps the rule with 4 on each.
        self.assertEqual([Row(rule, 8, fills).keeps for fills in ((4, 4, 4), (4, 3, 4), (1,), (4, 4, 4, 4), (6, 6, 6, 6),
                                                                  (9,), (8, 9), (4, 8))],
                         [True, False, True, False, True, False, False, True])

    def test_equal(self):
        row = Row(HALF, 4, (3, 3))
        self.assertTrue(row == Row(FillRule((1, 2)), 4, [3, 3]))
        for other in (Row(HALF, 5, (3, 3)), Row(HALF, 4, (3, 4)), Row(HALF, 4, (3, 3, 3)), Row(FillRule((2, 4)), 4, (3, 3)),
                      (3, 3), [3, 3], None):
            self.assertFalse(row == other)
        for value in any_values():
            if value.__class__ is not Row:
                self.assertIs(row == value, False)

    def test_a_list_may_be_changed_afterwards(self):
        fills = [1, 2]
        row = Row(HALF, 4, fills)
        fills.append(3)
        self.assertEqual(row.fills, (1, 2))


class ErrorsTest(unittest.TestCase):

    def test_errors_in_their_order(self):
        for value in any_values():
            if is_no_fill(value):
                assert_raises(self, BadRule("rule"), Row, value, value, value)
                assert_raises(self, BadRule("rule"), Row, value, 4, (1,))
            if not is_size(value):
                assert_raises(self, BadNumber(value), Row, HALF, value, value)
                assert_raises(self, BadNumber(value), Row, HALF, value, (1,))
            if not isinstance(value, (list, tuple)):
                assert_raises(self, BadOther("fills"), Row, HALF, 4, value)
            elif len(value) > 2000:
                assert_raises(self, TooMany("pages", 2000), Row, HALF, 4, value)
            else:
                wrong = [at for at, fill in enumerate(value) if fill.__class__ is not int or not 1 <= fill <= 10 ** 15]
                if wrong:
                    assert_raises(self, BadPages(wrong[0]), Row, HALF, 4, value)
                else:
                    self.assertEqual(Row(HALF, 4, value).fills, tuple(value))
        assert_raises(self, BadNumber(3), Row, FillRule((12, 1)), 3, None)
        assert_raises(self, BadNumber(3), Row, FillRule((1, 12), -12), 3, (0,))
        assert_raises(self, TooMany("pages", 2000), Row, HALF, 4, [None] * 2001)

    def test_the_first_wrong_fill(self):
        for at in (0, 1, 7, 1999):
            for wrong in (0, -1, True, None, "1", 10 ** 15 + 1, (1,)):
                fills = [1] * 2000
                fills[at] = wrong
                assert_raises(self, BadPages(at), Row, HALF, 4, fills)
                if at < 1999:
                    fills[at + 1] = None
                    assert_raises(self, BadPages(at), Row, HALF, 4, tuple(fills))
        self.assertEqual(Row(HALF, 4, (10 ** 15,)).total, 10 ** 15)

    def test_wrong_places(self):
        row = Row(HALF, 4, (3, 3, 4))
        full = Row(HALF, 4, (4,) * 2000)
        for value in [*any_values(), -1, 11, True]:
            right = value.__class__ is int
            if not (right and 0 <= value <= 10):
                assert_raises(self, BadNumber(value), row.put, value)
            if not (right and 0 <= value <= 9):
                assert_raises(self, BadNumber(value), row.take, value)
                assert_raises(self, BadNumber(value), row.page_of, value)
                assert_raises(self, BadNumber(value), Row(HALF, 4).take, value)
            if not (right and 0 <= value <= 8000):
                assert_raises(self, BadNumber(value), full.put, value)
        for value in (0, -1, None):
            assert_raises(self, BadNumber(value), Row(HALF, 4).page_of, index=value)
        assert_raises(self, BadNumber(1), Row(HALF, 4).put, ahead=1)
        self.assertEqual(row.put(ahead=10)[1], ("more", 3))
        self.assertEqual(row.take(index=9)[1], None)


if __name__ == "__main__":
    unittest.main()
