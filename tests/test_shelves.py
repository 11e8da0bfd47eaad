"""Shelves, beside a dict and beside a playing of all their rows by the words of point [9]."""

import random
import unittest

import paging
from evenrules.errors import BadKey, BadNumber, BadOther, BadRule, FairError, NoKey, TooMany
from evenrules.fills import FillRule
from evenrules.rules import TryRule
from evenrules.shelves import Shelf
from evenrules.trees import Tree
from helping import any_values, assert_raises, run_examples
from test_fills import HALF, THIN, is_no_fill, is_size
from test_rows import rules_and_sizes

EXAMPLES = """
>>> from evenrules.fills import FillRule, Fits, Spill, Spills, judge_fill, levels_for, pages_for, right_sizes, spill_of
>>> from evenrules.shelves import Shelf
>>> half, thin = FillRule((1, 2)), FillRule((2, 3), join_of=3)
>>> shelf = Shelf(half, 4, [(10 * number, None) for number in range(1, 10)])
>>> [shelf.pages, shelf.levels, shelf.page_of(55), shelf.page_of(5)]
[((10, 20, 30), (40, 50, 60), (70, 80, 90)), ((3, 3, 3), (3,)), 1, 0]
>>> [shelf.put(95, "x"), shelf.put(96), shelf.levels, shelf.drop(96), shelf.levels, shelf.drop(95), shelf.levels, shelf.keeps]
[None, None, ((3, 3, 3, 2), (4,)), None, ((3, 3, 2, 2), (4,)), 'x', ((3, 3, 3), (3,)), True]
>>> [Shelf.built(half, 4, [(number, None) for number in range(14)]).levels, shelf.tried(lambda same: [same.drop(key) for key in (10, 20, 30, 40, 50)]), len(shelf)]
[((4, 4, 3, 3), (4,)), [None, None, None, None, None], 9]
>>> shelf.drop(15)
raises NoKey(15)
"""
SMALL = [(HALF, 2), (HALF, 4), (THIN, 3), (THIN, 6), (FillRule((1, 3), cut_of=5, join_of=2), 5), (FillRule((1, 1)), 2),
         (FillRule((3, 4), cut_of=3, join_of=4), 8), (FillRule((1, 12), 12), 3), (FillRule((2, 2), -1), 3)]


class Model:
    """A dict with the rows of a shelf, played."""

    def __init__(self, rule, most):
        self.values = {}
        self.rows = paging.Rows(rule, most)

    def put(self, key, value):
        if key not in self.values:
            self.rows.put(key)
        self.values[key] = value

    def take(self, key):
        del self.values[key]
        self.rows.take(key)


class ShelfCase(unittest.TestCase):

    def check(self, shelf, model):
        """That a shelf is as its model in all that can be asked."""
        keys = sorted(model.values)
        self.assertEqual((list(shelf), len(shelf), bool(shelf)), (keys, len(keys), bool(keys)))
        self.assertEqual([shelf[key] for key in keys], [model.values[key] for key in keys])
        rows = model.rows.rows
        self.assertEqual(shelf.pages, tuple(tuple(page) for page in rows[0]) if rows else ())
        self.assertEqual(shelf.levels, model.rows.fills())
        self.assertIs(shelf.keeps, model.rows.keeps())

    def check_asked(self, shelf, model, keys):
        """That a shelf tells the same of these keys, which it may lack."""
        rows = model.rows.rows
        for key in keys:
            self.assertIs(key in shelf, key in model.values)
            self.assertEqual(shelf.get(key, "other"), model.values.get(key, "other"))
            self.assertEqual(shelf.page_of(key), self.told_page(rows, key))

    def told_page(self, rows, key):
        if not rows:
            return None
        for at, page in enumerate(rows[0]):
            if key in page:
                return at
        less = [at for at, page in enumerate(rows[0]) for other in page if other < key]
        return less[-1] if less else 0


class DeedsTest(ShelfCase):

    def test_examples(self):
        run_examples(self, EXAMPLES)

    def play(self, rule, most, keys, many, seed, drift):
        """Plays so many deeds with keys of a list; drift tells how likely a put is at the beginning and at the end."""
        random.seed(seed)
        shelf, model = Shelf(rule, most), Model(rule, most)
        for number in range(many):
            chance = drift[0] + (drift[1] - drift[0]) * number / many
            if not model.values or random.random() < chance:
                key = random.choice(keys)
                self.assertIsNone(shelf.put(key, number))
                model.put(key, number)
            else:
                key = random.choice(sorted(model.values))
                self.assertEqual(shelf.drop(key), model.values[key])
                model.take(key)
            self.check(shelf, model)
            if number % 10 == 0:
                self.check_asked(shelf, model, [*random.sample(keys, 3), key, key + 1, key - 1])
        return shelf, model

    def test_rows_of_deeds(self):
        for at, (rule, most) in enumerate([*SMALL, *rules_and_sizes(71, 40)]):
            self.play(rule, most, range(-20, 40), 110, 72 + at, (0.9, 0.2))

    def test_great_keys(self):
        great = 10 ** 30 - 1
        keys = [1 - great, 2 - great, -10 ** 20, -1, 0, 1, 10 ** 9, great - 5, great - 2, great - 1]
        for at, (rule, most) in enumerate(SMALL):
            self.play(rule, most, keys, 60, 90 + at, (0.7, 0.5))

    def test_from_both_ends_and_at_one_place(self):
        for rule, most in SMALL:
            orders = {"up": range(60), "down": range(60, 0, -1), "ends": [(-1) ** at * at for at in range(60)],
                      "middle": [at // 2 if at % 2 else 200 - at // 2 for at in range(60)]}
            for order in orders.values():
                shelf, model = Shelf(rule, most), Model(rule, most)
                for key in order:
                    shelf[key] = str(key)
                    model.put(key, str(key))
                    self.check(shelf, model)
                for way in (list(order), list(order)[::-1], sorted(order, key=lambda key: (key * 37) % 61)):
                    left, left_model = shelf.twin(), Model(rule, most)
                    for key in order:
                        left_model.put(key, str(key))
                    for key in way:
                        self.assertEqual(left.drop(key), str(key))
                        left_model.take(key)
                        self.assertEqual((left.levels, list(left)), (left_model.rows.fills(), sorted(left_model.values)))
                    self.assertEqual((left.levels, left.pages, bool(left), left.keeps), ((), (), False, True))

    def test_high_shelves(self):
        # Pages of two entries: as many rows as there can be.
        shelf, model = Shelf(HALF, 2), Model(HALF, 2)
        for key in range(80):
            shelf.put(key)
            model.put(key, None)
        self.check(shelf, model)
        self.assertGreater(len(shelf.levels), 5)
        for key in range(0, 80, 3):
            shelf.drop(key)
            model.take(key)
            self.check(shelf, model)

    def test_right_rules_keep_all_rows(self):
        for at, (rule, most) in enumerate(rules_and_sizes(73, 120)):
            if paging.is_right(rule, most):
                random.seed(at)
                shelf = Shelf(rule, most)
                for number in range(150):
                    key = random.randint(0, 60)
                    if key in shelf:
                        shelf.drop(key)
                    else:
                        shelf.put(key)
                    self.assertIs(shelf.keeps, True)

    def test_a_wrong_rule_is_spoilt_by_one_deed(self):
        rule, most = THIN, 6
        shelf = Shelf.built(rule, most, [(key, None) for key in range(24)])
        self.assertEqual((shelf.levels, shelf.keeps), (((6, 6, 6, 6), (4,)), True))
        shelf.put(-1)
        self.assertEqual((shelf.levels, shelf.keeps), (((4, 3, 6, 6, 6), (5,)), False))

    def test_two_thousand_keys(self):
        for rule, most in ((HALF, 2), (HALF, 64), (FillRule((2, 3), cut_of=3, join_of=4), 9)):
            keys = [key * 7919 % 2000 for key in range(2000)]
            shelf = Shelf(rule, most, [(key, -key) for key in keys])
            self.assertEqual((len(shelf), list(shelf), shelf.keeps), (2000, list(range(2000)), True))
            levels, pages = shelf.levels, shelf.pages
            for key in (2000, -1, 10 ** 29):
                assert_raises(self, TooMany("keys", 2000), shelf.put, key)
            shelf.put(5, "new")
            self.assertEqual((shelf.levels, shelf.pages, shelf[5]), (levels, pages, "new"))
            self.assertEqual([sum(row) for row in shelf.levels], [2000, *[len(row) for row in shelf.levels[:-1]]])
            model = paging.Rows(rule, most, [pages, *[[[None] * fill for fill in row] for row in levels[1:]]])
            for key in (1000, 0, 1999, 1001):
                shelf.drop(key)
                model.take(key)
                self.assertEqual(shelf.levels, model.fills())
            shelf[3000] = None
            self.assertEqual(len(shelf), 1997)

    def test_values_are_not_copied(self):
        value = [1]
        shelf = Shelf(HALF, 4, [(1, value)])
        shelf.put(2, value)
        shelf[3] = value
        self.assertTrue(shelf[1] is shelf[2] is shelf[3] is shelf.get(1) is shelf.twin()[1] is value)
        self.assertIs(shelf.drop(1), value)
        self.assertEqual([pair[1] is value for pair in shelf.stretch(0, 9)], [True, True])
        for other in any_values():
            shelf[7] = other
            self.assertIs(shelf[7], other)

    def test_what_was_passed_may_be_changed(self):
        items = [(1, "a"), (2, "b")]
        shelf, other = Shelf(HALF, 4, items), Shelf.built(HALF, 4, items)
        items.append((3, "c"))
        self.assertEqual((list(shelf), list(other)), ([1, 2], [1, 2]))

    def test_keys_in_a_loop_over_a_shelf(self):
        shelf = Shelf(HALF, 4, [(key, None) for key in range(9)])
        seen = []
        for key in shelf:
            seen.append(key)
            shelf.drop(key)
            shelf.put(100 + key)
        self.assertEqual((seen, list(shelf)), (list(range(9)), list(range(100, 109))))


class MadeTest(ShelfCase):

    def test_items_one_by_one(self):
        items = [(5, "a"), (1, "b"), (9, "c"), (5, "d"), (3, None), (2, [1])]
        for rule, most in SMALL:
            model = Model(rule, most)
            for key, value in items:
                model.put(key, value)
            for told in (items, tuple(items)):
                self.check(Shelf(rule, most, told), model)
            shelf = Shelf(items=items, most=most, rule=rule)
            self.check(shelf, model)
            self.assertEqual((shelf.fill_rule, shelf.most), (rule, most))
            self.assertIs(shelf.fill_rule, rule)
            self.check(Shelf(rule, most), Model(rule, most))

    def test_built(self):
        for rule, most in [*SMALL, *rules_and_sizes(74, 30)]:
            for many in [*range(30), 100]:
                keys = random.sample(range(-500, 500), many)
                items = [(key, str(key)) for key in keys]
                model = Model(rule, most)
                model.values = dict(items)
                model.rows = paging.built(rule, most, sorted(keys))
                shelf = Shelf.built(rule, most, items)
                self.check(shelf, model)
                self.assertEqual((shelf.fill_rule, shelf.most), (rule, most))
                # It goes on as any other shelf.
                shelf.put(1000, "x")
                model.put(1000, "x")
                self.check(shelf, model)
                self.assertEqual(shelf.drop(1000), "x")
                model.take(1000)
                self.check(shelf, model)

    def test_built_of_equal_keys(self):
        items = [(2, "a"), (1, "b"), (2, "c"), (3, "d"), (1, "e")]
        shelf = Shelf.built(HALF, 2, items)
        self.assertEqual((shelf.pages, shelf.levels, [shelf[key] for key in shelf]), (((1, 2), (3,)), ((2, 1), (2,)), ["e", "c", "d"]))
        self.assertEqual(Shelf.built(items=items, most=2, rule=HALF), shelf)
        many = [(key % 2000, None) for key in range(5000)]
        self.assertEqual(len(Shelf.built(HALF, 4, many)), 2000)

    def test_errors_in_their_order(self):
        for make in (Shelf, Shelf.built):
            for value in any_values():
                if is_no_fill(value):
                    assert_raises(self, BadRule("rule"), make, value, value, value)
                    assert_raises(self, BadRule("rule"), make, value, 4, ())
                if not is_size(value):
                    assert_raises(self, BadNumber(value), make, HALF, value, value)
                if not isinstance(value, (list, tuple)):
                    assert_raises(self, BadOther("items"), make, HALF, 4, value)
                elif any(not isinstance(item, tuple) or len(item) != 2 for item in value):
                    assert_raises(self, BadOther("items"), make, HALF, 4, value)
                if value.__class__ is not int or abs(value) >= 10 ** 30:
                    assert_raises(self, BadKey(value), make, HALF, 4, [(1, 2), (value, 3), (None, 4)])
                assert_raises(self, BadOther("items"), make, HALF, 4, [(1, 2), (value, 3), [4, 5]])
            assert_raises(self, BadNumber(3), make, FillRule((12, 1)), 3, None)
            assert_raises(self, BadOther("items"), make, HALF, 4, [(1, 2), (3, 4, 5)])
            assert_raises(self, TooMany("keys", 2000), make, HALF, 4, [(key, None) for key in range(2001)])
        many = [(key, None) for key in range(2001)]
        # Keys that are put one by one: the first put that raises an error tells it.
        assert_raises(self, TooMany("keys", 2000), Shelf, HALF, 4, [*many, ("x", None)])
        assert_raises(self, BadKey("x"), Shelf, HALF, 4, [*many[:2000], ("x", None), many[2000]])
        assert_raises(self, BadKey("x"), Shelf.built, HALF, 4, [*many, ("x", None)])
        assert_raises(self, BadKey(True), Shelf.built, HALF, 4, [(1, None), (True, None)])


class ErrorsTest(ShelfCase):

    def test_any_values_for_keys(self):
        shelf = Shelf(HALF, 4, [(1, "a"), (2, "b"), (7, "c")])
        levels = shelf.levels
        for value in [*any_values(), 3, True, -7]:
            if value.__class__ is int and value in (1, 2, 7):
                self.assertIs(value in shelf, True)
                continue
            self.assertIs(value in shelf, False)
            self.assertEqual(shelf.get(value, "-"), "-")
            self.assertIsNone(shelf.get(value))
            assert_raises(self, NoKey(value), lambda: shelf[value])
            assert_raises(self, NoKey(value), shelf.drop, value)
            if value.__class__ is not int or abs(value) >= 10 ** 30:
                assert_raises(self, BadKey(value), shelf.put, value)
                assert_raises(self, BadKey(value), shelf.__setitem__, value, 1)
                assert_raises(self, BadKey(value), shelf.page_of, value)
                assert_raises(self, BadKey(value), lambda: next(shelf.stretch(value, None)))
                assert_raises(self, BadKey(value), lambda: list(shelf.stretch(1, value)))
        self.assertEqual((shelf.levels, list(shelf)), (levels, [1, 2, 7]))
        self.assertIsNone(shelf.put(value="d", key=3))
        self.assertEqual((shelf.drop(key=3), shelf.get(key=3, other=4), shelf.page_of(key=1)), ("d", 4, 0))

    def test_a_full_shelf_tells_of_bad_keys_first(self):
        shelf = Shelf.built(HALF, 9, [(key, None) for key in range(2000)])
        assert_raises(self, BadKey("x"), shelf.put, "x")
        assert_raises(self, TooMany("keys", 2000), shelf.put, 2000)
        assert_raises(self, NoKey(2000), shelf.drop, 2000)

    def test_stretch(self):
        for rule, most in SMALL:
            shelf = Shelf(rule, most, [(key, str(key)) for key in range(0, 60, 3)])
            for low in range(-2, 62, 5):
                for high in range(-2, 62, 7):
                    wanted = [(key, str(key)) for key in range(0, 60, 3) if low <= key < high]
                    self.assertEqual(list(shelf.stretch(low, high)), wanted)
        self.assertEqual(list(Shelf(HALF, 4).stretch(high=5, low=0)), [])

    def test_equal(self):
        one = Shelf(HALF, 2, [(key, [key]) for key in range(9)])
        self.assertTrue(one == Shelf.built(THIN, 6, [(key, [key]) for key in range(9)]))
        self.assertNotEqual(one.levels, Shelf.built(THIN, 6, [(key, [key]) for key in range(9)]).levels)
        for items in ([], [(key, [key]) for key in range(8)], [(key, [key]) for key in range(10)],
                      [(key, (key,)) for key in range(9)], [(key, [key]) for key in range(1, 10)]):
            self.assertFalse(one == Shelf(HALF, 2, items))
        self.assertTrue(Shelf(HALF, 2) == Shelf(THIN, 6))
        self.assertFalse(Shelf(HALF, 2, [(1, 1)]) == Shelf(HALF, 2, [(1, True)]))
        self.assertFalse(Shelf(HALF, 2, [(1, 1)]) == Tree(TryRule((3, 1)), [(1, 1)]))
        self.assertFalse(Tree(TryRule((3, 1)), [(1, 1)]) == Shelf(HALF, 2, [(1, 1)]))
        for value in any_values():
            if value.__class__ is not Shelf:
                self.assertIs(one == value, False)


class UnitedTest(ShelfCase):

    def test_the_items_of_another_shelf(self):
        for rule, most in SMALL:
            shelf, model = Shelf(rule, most), Model(rule, most)
            for key in (3, 9, 1, 20, 14, 6):
                shelf.put(key, "old")
                model.put(key, "old")
            other = Shelf(HALF, 4, [(key, key) for key in (14, 2, 30, 9, -5)])
            levels = other.levels
            same = shelf
            shelf |= other
            for key in (-5, 2, 9, 14, 30):
                model.put(key, key)
            self.assertIs(shelf, same)
            self.check(shelf, model)
            self.assertEqual((list(other), other.levels), ([-5, 2, 9, 14, 30], levels))
            other.put(77)
            self.assertNotIn(77, shelf)

    def test_a_shelf_into_itself(self):
        shelf = Shelf(HALF, 2, [(key, str(key)) for key in range(20)])
        levels, pages = shelf.levels, shelf.pages
        shelf |= shelf
        self.assertEqual((shelf.levels, shelf.pages, shelf[7]), (levels, pages, "7"))

    def test_too_many_keys(self):
        shelf = Shelf.built(HALF, 9, [(key, "old") for key in range(1990)])
        levels = shelf.levels
        other = Shelf(HALF, 9, [(key, "new") for key in (5, 3000, *range(-10, 0))])
        with self.assertRaises(TooMany) as caught:
            shelf |= other
        self.assertEqual((caught.exception.what, caught.exception.most), ("keys", 2000))
        self.assertEqual((len(shelf), shelf.levels, shelf[5]), (1990, levels, "old"))
        other.drop(-1)
        other.drop(3000)
        shelf |= other
        self.assertEqual((len(shelf), shelf[5]), (1999, "new"))
        full = Shelf.built(HALF, 9, [(key, "old") for key in range(2000)])
        full |= Shelf(HALF, 4, [(7, "new")])
        self.assertEqual((len(full), full[7]), (2000, "new"))

    def test_what_is_no_shelf(self):
        shelf = Shelf(HALF, 4, [(1, 2)])
        for value in any_values():
            if not isinstance(value, Shelf):
                with self.assertRaises(BadOther) as caught:
                    shelf |= value
                self.assertEqual(caught.exception.part, "other")
        self.assertEqual(list(shelf), [1])


class TrialTest(ShelfCase):

    def state(self, shelf):
        return shelf.pages, shelf.levels, [shelf[key] for key in shelf], shelf.fill_rule, shelf.most

    def test_a_trial(self):
        shelf = Shelf(HALF, 2, [(key, str(key)) for key in range(12)])
        before = self.state(shelf)
        with shelf.trial() as same:
            self.assertIs(same, shelf)
            same.drop(3)
            same[20] = "x"
            shelf[5] = "y"
            shelf |= Shelf(HALF, 4, [(30, "z")])
            self.assertEqual((len(shelf), shelf[5], 3 in shelf, 30 in shelf), (13, "y", False, True))
        self.assertEqual(self.state(shelf), before)
        shelf.put(99)
        self.assertEqual(len(shelf), 13)

    def test_nested_trials(self):
        shelf = Shelf(HALF, 2, [(1, "a")])
        with shelf.trial():
            shelf[2] = "b"
            inside = self.state(shelf)
            with shelf.trial() as same:
                same[3] = "c"
                same.drop(1)
                with same.trial():
                    shelf.drop(2)
                    self.assertEqual(list(shelf), [3])
                self.assertEqual(list(shelf), [2, 3])
            self.assertEqual(self.state(shelf), inside)
        self.assertEqual(list(shelf), [1])

    def test_errors_leave_the_block(self):
        shelf = Shelf(HALF, 2, [(key, str(key)) for key in range(7)])
        before = self.state(shelf)
        for error in (NoKey(50), ValueError("own"), KeyError("own")):
            with self.assertRaises(error.__class__) as caught:
                with shelf.trial():
                    shelf.drop(1)
                    if isinstance(error, FairError):
                        shelf.drop(50)
                    raise error
            self.assertEqual(str(caught.exception), str(error) if not isinstance(error, FairError) else "50")
            self.assertEqual(self.state(shelf), before)
        with shelf.trial():
            with self.assertRaises(NoKey):
                with shelf.trial():
                    shelf.drop(2)
                    shelf.drop(2)
            self.assertIn(2, shelf)
            shelf.drop(3)
        self.assertEqual(self.state(shelf), before)

    def test_tried(self):
        shelf = Shelf(HALF, 4, [(key, str(key)) for key in range(9)])
        before = self.state(shelf)
        self.assertEqual(shelf.tried(lambda same: [same is shelf, same.drop(4), len(same), same.levels]),
                         [True, "4", 8, ((3, 2, 3), (3,))])
        self.assertEqual(self.state(shelf), before)
        assert_raises(self, NoKey(77), shelf.tried, lambda same: [same.drop(1), same.drop(77)])
        self.assertEqual(self.state(shelf), before)
        self.assertEqual(shelf.tried(work=lambda same: same.tried(lambda again: again.drop(0)) + same.drop(0)), "00")
        self.assertEqual(self.state(shelf), before)

    def test_twins(self):
        shelf = Shelf(THIN, 3, [(key, [key]) for key in range(14)])
        before = self.state(shelf)
        other = shelf.twin()
        self.assertIs(other.__class__, Shelf)
        self.assertIsNot(other, shelf)
        self.assertEqual((self.state(other), other), (before, shelf))
        other.drop(3)
        other.put(50)
        other[4] = "x"
        self.assertEqual(self.state(shelf), before)
        after = self.state(other)
        shelf.drop(5)
        self.assertEqual(self.state(other), after)
        with shelf.trial():
            inside = shelf.twin()
            shelf.drop(6)
            inside.drop(7)
        self.assertEqual((6 in shelf, 7 in shelf, 6 in inside, 7 in inside), (True, True, True, False))


if __name__ == "__main__":
    unittest.main()
