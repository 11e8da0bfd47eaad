"""The looker for what is told of fill rules: right answers, near ones, and values of all kinds."""

import unittest
from itertools import product

import paging
from evenrules.errors import BadRule, FairError
from evenrules.fills import FillRule, Fits, Spill, Spills, judge_fill, spill_of
from evenrules.look_fills import shows_fill
from helping import any_values, assert_raises
from test_fills import GREAT, HALF, THIN, is_no_fill, some_fills

ODD_VALUES = [None, True, False, "2", (), [], (2,), 2 ** 70, -1, 0, {}, "put", THIN]


def is_whole(value):
    return value.__class__ is int


def is_right_fits(rule, size, wrong):
    """Whether a Fits is right, word by word."""
    p, q = rule.times
    n = min(rule.cut_of + 1, rule.join_of)
    if not is_whole(size) or not 2 <= size <= 1000 or not isinstance(wrong, tuple):
        return False
    found = [other for other in range(2, size) if not paging.is_right(rule, other)]
    return (all(paging.is_right(rule, other) for other in range(size, size + q)) and n * p <= (n - 1) * q
            and all(is_whole(other) for other in wrong) and list(wrong) == found
            and (size == 2 or (found != [] and found[-1] == size - 1)))


def is_right_spills(rule, size, step):
    """Whether a Spills is right, word by word."""
    p, q = rule.times
    n = min(rule.cut_of + 1, rule.join_of)
    if not is_whole(size) or not 2 <= size <= 1000 or not is_whole(step) or step != q or n * p < (n - 1) * q:
        return False
    while True:
        least = paging.numbers_of(rule, size)[1]
        if paging.is_right(rule, size):
            return False
        if least >= 1 and n * least > (n - 1) * size + 1:
            return True
        size += q


class FitsTest(unittest.TestCase):

    def test_what_is_told(self):
        kinds = {True: 0, False: 0}
        for rule in some_fills(11, 400):
            told = judge_fill(rule)
            self.assertIs(shows_fill(rule, told), True)
            kinds[bool(told)] += 1
        self.assertGreater(min(kinds.values()), 100)
        self.assertIs(shows_fill(value=Fits(2, ()), rule=HALF), True)

    def test_other_sizes(self):
        counts = {True: 0, False: 0}
        for rule in some_fills(12, 150):
            told = judge_fill(rule)
            step = rule.times[1]
            for size in [*range(max(-1, told.size - 15), told.size + 15), 998, 999, 1000, 1001, 10 ** 9]:
                if 2 <= size <= 2000:
                    wrong = tuple(other for other in range(2, size) if not paging.is_right(rule, other))
                else:
                    wrong = ()
                shown = shows_fill(rule, Fits(size, wrong))
                self.assertIs(shown, is_right_fits(rule, size, wrong))
                counts[shown] += 1
                # More than one Spills is right: each of these sizes, and those of other remainders.
                shown = shows_fill(rule, Spills(size, step))
                self.assertIs(shown, is_right_spills(rule, size, step))
                counts[shown] += 1
        self.assertGreater(min(counts.values()), 200)

    def test_other_wrong_sizes(self):
        for rule in some_fills(13, 300):
            told = judge_fill(rule)
            if not told:
                continue
            wrong = told.wrong
            near = [wrong + (told.size,), wrong[:-1], wrong[1:], wrong + wrong[-1:], wrong[::-1], list(wrong), (2, *wrong),
                    tuple(float(size) for size in wrong), (True, *wrong[1:]), (None,), tuple(map(str, wrong)), (wrong,)]
            for other in near:
                self.assertIs(shows_fill(rule, Fits(told.size, other)), other == wrong and other.__class__ is tuple
                              and all(is_whole(size) for size in other), (str(rule), other))
            for value in any_values():
                self.assertIs(shows_fill(rule, Fits(told.size, value)), value == () and wrong == ()
                              and isinstance(value, tuple))
                self.assertIs(shows_fill(rule, Fits(value, wrong)), is_right_fits(rule, value, wrong))

    def test_other_steps(self):
        rule = FillRule((1, 1), 1)
        self.assertEqual((judge_fill(rule), shows_fill(rule, Spills(2, 1))), (Spills(2, 1), True))
        for value in any_values():
            self.assertIs(shows_fill(rule, Spills(2, value)), is_whole(value) and value == 1)
            right = is_whole(value) and 2 <= value <= 1000
            self.assertIs(shows_fill(rule, Spills(value, 1)), right)
        for step in (-3, 0, 1, 2, 4, 6, "3", (3,), 3.0):
            self.assertIs(shows_fill(THIN, Spills(6, step)), False)
        self.assertIs(shows_fill(THIN, Spills(6, 3)), True)

    def test_growth_alone_tells(self):
        # All sizes near by are right, but n * p is above (n - 1) * q: later ones are not.
        rule = FillRule((6, 7), -12, cut_of=5, join_of=6)
        self.assertEqual(judge_fill(rule).__class__, Spills)
        for size in range(20, 60):
            self.assertIs(shows_fill(rule, Fits(size, tuple(range(2, size)))), False)
        for cut, join, q in product((1, 2, 5), (2, 4, 6), (1, 6, 7, 12)):
            for p in range(1, q + 1):
                rule = FillRule((p, q), -12, cut_of=cut, join_of=join)
                for size in (2, 10, 11, 12, 40):
                    wrong = tuple(other for other in range(2, size) if not paging.is_right(rule, other))
                    self.assertIs(shows_fill(rule, Fits(size, wrong)), is_right_fits(rule, size, wrong))
                    self.assertIs(shows_fill(rule, Spills(size, q)), is_right_spills(rule, size, q))

    def test_verdicts_of_other_rules(self):
        rules = list(some_fills(14, 40))
        for one, other in product(rules, rules):
            told = judge_fill(other)
            check = is_right_fits if told else is_right_spills
            self.assertIs(shows_fill(one, told), check(one, *vars(told).values()))


class SpillTest(unittest.TestCase):

    def is_right(self, rule, most, fills, deed, behind):
        """Whether a Spill is right, word by word."""
        if not is_whole(most) or not 2 <= most <= GREAT or not isinstance(fills, tuple) or not isinstance(behind, tuple):
            return False
        if deed not in ("put", "take") or not all(is_whole(fill) and fill >= 1 for fill in fills):
            return False
        _, least, _, _, width = paging.numbers_of(rule, most)
        pages = [range(fill) for fill in fills]
        if not 1 <= least <= most or not width < len(pages) <= 2000 or not paging.keeps(rule, most, pages):
            return False
        if deed == "put":
            pages, _ = paging.put(rule, most, pages, 0, None)
        else:
            pages, _ = paging.take(rule, most, pages, 0)
        if not all(is_whole(fill) for fill in behind) or list(behind) != [len(page) for page in pages]:
            return False
        return len(pages) > width and not paging.keeps(rule, most, pages)

    def told(self):
        """Some wrong rules with what is told of them."""
        for rule in some_fills(15, 200):
            for most in (2, 3, 5, 6, 7, 12):
                try:
                    yield rule, spill_of(rule, most)
                except FairError:
                    pass

    def test_what_is_told_and_near_it(self):
        counts = {True: 0, False: 0}
        for rule, spill in list(self.told())[::2]:
            self.assertIs(shows_fill(rule, spill), True)
            most, fills, deed, behind = vars(spill).values()
            other = "take" if deed == "put" else "put"
            near = [
                (most + 1, fills, deed, behind), (most - 1, fills, deed, behind), (most, fills[1:], deed, behind[1:]),
                (most, fills[1:], deed, behind), (most, fills + fills[-1:], deed, behind + behind[-1:]),
                (most, fills, other, behind), (most, fills, deed, behind[::-1]), (most, fills, deed, behind[:-1]),
                (most, list(fills), deed, behind), (most, fills, deed, list(behind)), (most, behind, deed, fills),
                (most, fills, deed, (behind[0] + 1, *behind[1:])), (most, (fills[0] + 1, *fills[1:]), deed, behind),
                (most, (fills[0] - 1, *fills[1:]), deed, behind), (most, fills, deed, fills), (most, (), deed, ()),
                (True, fills, deed, behind), (most, (True, *fills[1:]), deed, behind), (most, fills, (deed,), behind),
                (most, fills + fills[-1:] * 30, deed, behind + fills[-1:] * 30),
            ]
            for parts in near:
                wanted = self.is_right(rule, *parts)
                self.assertIs(shows_fill(rule, Spill(*parts)), wanted, (str(rule), parts))
                counts[wanted] += 1
        self.assertGreater(min(counts.values()), 100)

    def test_kinds_of_numbers(self):
        # Where pages of one entry stand, True would be one of them.
        rule = FillRule((12, 12), cut_of=1)
        spill = spill_of(rule, 2)
        self.assertEqual((spill.fills, spill.behind), ((2, 2, 2), (2, 1, 2, 2)))
        self.assertIs(shows_fill(rule, Spill(2, (2, 2, 2), "put", (2, True, 2, 2))), False)
        self.assertIs(shows_fill(rule, Spill(2, (2, 2, 2), "put", (2, 1, 2, 2))), True)

    def test_many_pages(self):
        for rule, spill in list(self.told())[:25]:
            more = spill.fills[-1:]
            for many, wanted in ((2000, True), (2001, False)):
                add = many - len(spill.fills)
                longer = Spill(spill.most, spill.fills + more * add, spill.deed, spill.behind + more * add)
                self.assertIs(shows_fill(rule, longer), wanted)

    def test_each_attribute_any_value(self):
        for rule, spill in (list(self.told())[3], list(self.told())[-1]):
            for at in range(4):
                for value in [*any_values(), *ODD_VALUES]:
                    parts = list(vars(spill).values())
                    parts[at] = value
                    self.assertIs(shows_fill(rule, Spill(*parts)), self.is_right(rule, *parts))

    def test_a_row_that_is_not_young_behind(self):
        # One page fewer makes this row young: it does not show anything.
        rule = FillRule((2, 3), cut_of=2)
        self.assertIs(shows_fill(rule, Spill(6, (4, 4, 4, 4), "take", (7, 4, 4))), True)
        self.assertIs(shows_fill(rule, Spill(6, (4, 4, 4), "take", (7, 4))), False)

    def test_a_row_that_is_young_ahead(self):
        # A young row that a deed leaves old and too thin shows nothing, either.
        for rule, most in ((FillRule((1, 1)), 5), (FillRule((1, 1), cut_of=3, join_of=4), 9)):
            row = (most,) * rule.width
            pages, _ = paging.put(rule, most, [[None] * fill for fill in row], 0, None)
            behind = tuple(len(page) for page in pages)
            self.assertEqual((len(behind), paging.keeps(rule, most, pages)), (rule.width + 1, False))
            self.assertIs(shows_fill(rule, Spill(most, row, "put", behind)), False)
            pages, _ = paging.put(rule, most, [[None] * most] * (rule.width + 1), 0, None)
            behind = tuple(len(page) for page in pages)
            self.assertIs(shows_fill(rule, Spill(most, row + row[:1], "put", behind)), True)

    def test_great_sizes(self):
        for rule in (THIN, FillRule((11, 12), cut_of=5, join_of=6), FillRule((2, 3), cut_of=2)):
            for most in (GREAT - 2, GREAT - 1, GREAT):
                if not rule.fits(most):
                    spill = spill_of(rule, most)
                    self.assertIs(shows_fill(rule, spill), True)
                    for other in (GREAT + 1, GREAT + 13, most - 1000):
                        self.assertIs(shows_fill(rule, Spill(other, *list(vars(spill).values())[1:])), False)


class AnyTest(unittest.TestCase):

    def test_values_of_all_kinds(self):
        told = {id(rule): [] for rule in (HALF, THIN)}
        for rule in (HALF, THIN):
            for value in any_values():
                if shows_fill(rule, value):
                    told[id(rule)].append(value)
        self.assertEqual(told[id(HALF)], [Fits(2, ())])
        self.assertEqual(told[id(THIN)], [Spills(6, 3), Spill(6, (6, 6, 6, 6), "put", (4, 3, 6, 6, 6))])

    def test_wrong_rules(self):
        for value in any_values():
            if is_no_fill(value):
                assert_raises(self, BadRule("rule"), shows_fill, value, Fits(2, ()))
                assert_raises(self, BadRule("rule"), shows_fill, value, value)


if __name__ == "__main__":
    unittest.main()
