"""What integers, keys and names are."""

import unittest

from evenrules.checks import is_integer, is_key, is_name, is_within, need_key, need_name
from evenrules.errors import BadKey, BadName
from helping import any_values, assert_raises, run_examples

EXAMPLES = """
>>> from evenrules.checks import is_integer, is_key, is_within, need_key
>>> [is_integer(True), is_key(-(10 ** 30) + 1), is_key(10 ** 30), is_within(3, 3, 5), is_within("3", 3, 5)]
[False, True, False, True, False]
>>> need_key("1")
raises BadKey('1')
"""
OTHERS = [value for value in any_values() if value.__class__ is not int]


class ChecksTest(unittest.TestCase):

    def test_examples(self):
        run_examples(self, EXAMPLES)

    def test_integers(self):
        for value in (0, 1, -1, 10 ** 69, -10 ** 70):
            self.assertIs(is_integer(value), True)
        for value in OTHERS:
            self.assertIs(is_integer(value), False)

    def test_keys(self):
        for value in (0, -1, 10 ** 30 - 1, 1 - 10 ** 30):
            self.assertIs(is_key(value), True)
            self.assertIsNone(need_key(value))
        for value in [10 ** 30, -10 ** 30, 10 ** 69, *OTHERS]:
            self.assertIs(is_key(value), False)
            assert_raises(self, BadKey(value), need_key, value)

    def test_within(self):
        for value, least, most in ((3, 3, 5), (5, 3, 5), (0, 0, 0), (-4, -5, -3), (10 ** 60, 1, 10 ** 60)):
            self.assertIs(is_within(value, least, most), True)
        for value, least, most in ((2, 3, 5), (6, 3, 5), (1, 0, 0), (4, 5, 3), (10 ** 60 + 1, 1, 10 ** 60)):
            self.assertIs(is_within(value, least, most), False)
        for value in OTHERS:
            self.assertIs(is_within(value, -10, 10), False)

    def test_names(self):
        for value in ("a", "z", "abcdefgh", "zzzzzzzz"):
            self.assertIs(is_name(value), True)
            self.assertIsNone(need_name(value))
        for value in ("", "abcdefghi", "A", "aB", "a1", "a b", "a\n", "a-b", "_", None, 1, True, ["a"], ("a",), {"a": 1}):
            self.assertIs(is_name(value), False)
            assert_raises(self, BadName(value), need_name, value)

    def test_names_of_any_values(self):
        for value in any_values():
            self.assertIs(is_name(value), value.__class__ is str and value == "a")

    def test_errors_keep_the_value(self):
        with self.assertRaises(BadKey) as caught:
            need_key(10 ** 30)
        self.assertEqual(caught.exception.value, 10 ** 30)
        with self.assertRaises(BadName) as caught:
            need_name(value="Anna")
        self.assertEqual(caught.exception.value, "Anna")


if __name__ == "__main__":
    unittest.main()
