"""Straight tests: amounts, signs, texts, and what is refused."""

import unittest
from itertools import product

from evenrules.errors import BadNumber, BadOther, BadTest, BadText
from evenrules.straight import Test as StraightTest
from helping import any_values, assert_raises, run_examples

EXAMPLES = """
>>> from evenrules.straight import Test
>>> strip = Test((3, -2), 1)
>>> [str(strip), strip((1, 1)), strip.amount([1, 2]), str(~strip), str(-strip), str(strip + Test((0, 2), 5)), str(2 * strip), str(Test((6, -4), 3).tight()), Test.read("3 -2 >= 1") == strip]
['3 -2 >= 1', True, -1, '-3 2 >= 0', '-3 2 >= -1', '3 0 >= 6', '6 -4 >= 2', '3 -2 >= 2', True]
>>> Test.read("3 -2 > 1")
raises BadText(0, 2)
"""
FORTY = 10 ** 39 + 7
SOME = [
    StraightTest((0,), 0), StraightTest((3,), 1), StraightTest((3, -2), 1), StraightTest([6, -4], 3),
    StraightTest((0, 0), -2), StraightTest((1, 0, -1), -FORTY), StraightTest((9, 6, 3, 0), 10),
    StraightTest((FORTY, 1, 2, 3, -FORTY), FORTY),
]


class MadeTest(unittest.TestCase):

    def test_examples(self):
        run_examples(self, EXAMPLES)

    def test_parts_and_bound(self):
        for many in range(1, 6):
            parts = list(range(-2, many - 2))
            for told in (parts, tuple(parts)):
                test = StraightTest(told, FORTY)
                self.assertEqual(vars(test), {"parts": tuple(parts), "bound": FORTY})
                self.assertIsInstance(test.parts, tuple)
                self.assertEqual(len(test), many)

    def test_by_name(self):
        self.assertEqual(StraightTest(bound=2, parts=(1,)), StraightTest((1,), 2))

    def test_wrong_parts(self):
        for value in any_values():
            right = isinstance(value, (list, tuple)) and all(item.__class__ is int for item in value)
            if not right or not 1 <= len(value) <= 5:
                assert_raises(self, BadTest("parts"), StraightTest, value, 0)
                assert_raises(self, BadTest("parts"), StraightTest, value, None)
        assert_raises(self, BadTest("parts"), StraightTest, [1] * 6, 1)
        assert_raises(self, BadTest("parts"), StraightTest, (1, True), 1)

    def test_wrong_bound(self):
        for value in any_values():
            if value.__class__ is not int:
                assert_raises(self, BadTest("bound"), StraightTest, (1, 2), value)

    def test_a_list_may_be_changed_afterwards(self):
        parts = [1, 2]
        test = StraightTest(parts, 3)
        parts.append(4)
        parts[0] = 9
        self.assertEqual(test.parts, (1, 2))

    def test_equal(self):
        for one, other in product(range(len(SOME)), repeat=2):
            self.assertIs(SOME[one] == SOME[other], one == other)
            self.assertIs(SOME[one] != SOME[other], one != other)
        for value in any_values():
            if not isinstance(value, StraightTest):
                self.assertFalse(SOME[0] == value)
        self.assertEqual(StraightTest([1, 2], 3), StraightTest((1, 2), 3))
        self.assertNotEqual(StraightTest((1, 2), 3), StraightTest((1, 2), 4))
        self.assertNotEqual(StraightTest((1, 2), 3), StraightTest((1, 2, 0), 3))


class AmountTest(unittest.TestCase):

    def test_amounts(self):
        self.assertEqual(StraightTest((2, 3), 0).amount((5, -7)), -11)
        self.assertEqual(StraightTest((2, 3, 4, 5, 6), 0).amount([1, 10, 100, 1000, 10000]), 65432)
        self.assertEqual(StraightTest((FORTY, 1), 0).amount([FORTY, -1]), FORTY * FORTY - 1)

    def test_whether_it_holds(self):
        test = StraightTest((2, -3), 4)
        for numbers in product(range(-5, 6), repeat=2):
            self.assertIs(test(numbers), 2 * numbers[0] - 3 * numbers[1] >= 4)
        self.assertIs(StraightTest((1,), FORTY)([FORTY]), True)
        self.assertIs(StraightTest((1,), FORTY)([FORTY - 1]), False)

    def test_wrong_numbers(self):
        test = StraightTest((3, -2), 1)
        for value in [*any_values(), (1,), (1, 2, 3), [1, True], (1, "2"), [None, 1], "12"]:
            if isinstance(value, (list, tuple)) and [item.__class__ for item in value] == [int, int]:
                continue
            assert_raises(self, BadNumber(value), test.amount, value)
            assert_raises(self, BadNumber(value), test, value)


class SignsTest(unittest.TestCase):

    def test_add(self):
        self.assertEqual(StraightTest((1, 2), 3) + StraightTest((10, -20), FORTY), StraightTest((11, -18), FORTY + 3))

    def test_add_wrong(self):
        test = StraightTest((1, 2), 3)
        for value in [*any_values(), StraightTest((1,), 1), StraightTest((1, 2, 3), 1)]:
            if not isinstance(value, StraightTest) or len(value) != 2:
                assert_raises(self, BadOther("test"), lambda: test + value)

    def test_times(self):
        test = StraightTest((1, -2), 3)
        for number in (0, 1, 2, FORTY):
            wanted = StraightTest((number, -2 * number), 3 * number)
            self.assertEqual(test * number, wanted)
            self.assertEqual(number * test, wanted)

    def test_times_wrong(self):
        test = StraightTest((1, -2), 3)
        for value in [*any_values(), -1, -FORTY]:
            if value.__class__ is int and value >= 0:
                continue
            assert_raises(self, BadNumber(value), lambda: test * value)
            assert_raises(self, BadNumber(value), lambda: value * test)

    def test_opposite(self):
        for test in SOME:
            self.assertEqual((-test).parts, tuple(-part for part in test.parts))
            self.assertEqual((-test).bound, -test.bound)
            self.assertEqual(-(-test), test)

    def test_inverted(self):
        for numbers in product(range(-4, 5), repeat=2):
            for bound in range(-5, 6):
                test = StraightTest((3, -2), bound)
                self.assertIs((~test)(numbers), not test(numbers))
        self.assertEqual(~StraightTest((3, -2), FORTY), StraightTest((-3, 2), 1 - FORTY))

    def test_tight(self):
        self.assertEqual(StraightTest((6, -4), 3).tight(), StraightTest((3, -2), 2))
        self.assertEqual(StraightTest((6, -4), -3).tight(), StraightTest((3, -2), -1))
        self.assertEqual(StraightTest((-9, 0, 6), 9).tight(), StraightTest((-3, 0, 2), 3))
        self.assertEqual(StraightTest((0, 0), 5).tight(), StraightTest((0, 0), 5))
        self.assertEqual(StraightTest((2, 3), 5).tight(), StraightTest((2, 3), 5))
        self.assertEqual(StraightTest((0, -7), 8).tight(), StraightTest((0, -1), 2))
        for bound in range(-9, 10):
            test = StraightTest((6, -4), bound)
            for numbers in product(range(-3, 4), repeat=2):
                self.assertIs(test.tight()(numbers), test(numbers))

    def test_the_tests_stay(self):
        test = StraightTest((6, -4), 3)
        (test + test, 2 * test, test * 2, -test, ~test, test.tight(), str(test), test((1, 1)), test.amount((1, 1)))
        self.assertEqual(vars(test), {"parts": (6, -4), "bound": 3})


class TextTest(unittest.TestCase):

    def test_text(self):
        self.assertEqual(str(StraightTest((1, 0, -3), -5)), "1 0 -3 >= -5")
        self.assertEqual(str(StraightTest((0,), FORTY)), f"0 >= {FORTY}")

    def test_texts_are_read(self):
        for test in SOME:
            self.assertEqual(StraightTest.read(str(test)), test)

    def test_very_long_numbers(self):
        great = StraightTest((1, -1), 3)
        for _ in range(90):
            great = great * 10 ** 69
        text = f"1{'0' * 6210} -1{'0' * 6210} >= 3{'0' * 6210}"
        self.assertEqual(str(great), text)
        self.assertEqual(StraightTest.read(text), great)

    def test_numbers_of_every_length(self):
        digits = "9876543210" * 20
        for length in range(1, 200):
            for word in (digits[:length], f"-{digits[:length]}", f"1{'0' * length}"):
                test = StraightTest.read(f"{word} >= {word}")
                self.assertEqual((test.parts[0], test.bound), (int(word), int(word)))
                self.assertEqual(str(test), f"{word} >= {word}")

    def test_wrong_texts(self):
        wrong = [
            ("", 0), (" ", 0), (">= 1", 0), ("x >= 1", 0), (" 1 >= 1", 0), ("+1 >= 1", 0), ("01 >= 1", 0), ("-0 >= 1", 0),
            ("1_0 >= 1", 0), ("1.0 >= 1", 0), ("- >= 1", 0), ("--1 >= 1", 0), ("1\n", 0), ("1", 1), ("1 ", 1), ("1  >= 1", 1),
            ("1 x", 1), ("1 -01 >= 3", 1), ("1 2", 2), ("1 2 > 3", 2), ("1 2 => 3", 2), ("1 2 >= ", 3), ("1 2 >=", 3),
            ("1 2 >= x", 3), ("1 2 >= 3 ", 4), ("1 2 >= 3 4", 4), ("1 2 >= 3 >= 4", 4), ("1 2 3 4 5", 5),
            ("1 2 3 4 5 6 >= 7", 5), ("1 2 3 4 5 >= 7 8", 7), ("1 2 3 4 5 x >= 7", 5), ("1 >= 2\n", 2), ("1\n2 >= 3", 0),
        ]
        for text, word in wrong:
            assert_raises(self, BadText(0, word), StraightTest.read, text)

    def test_no_texts(self):
        for value in any_values():
            assert_raises(self, BadText(0, 1 if value == "1" else 0), StraightTest.read, value)


if __name__ == "__main__":
    unittest.main()
