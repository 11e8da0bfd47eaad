"""Straight tests: whether whole numbers, each so many times, add up to a bound at least."""

from math import gcd

from evenrules.checks import is_integer
from evenrules.errors import BadNumber, BadOther, BadTest, BadText
from evenrules.words import number_word, number_words, read_number

MOST_PARTS = 5
MOST_TESTS = 20


class Test:
    """The test that parts[0] * x0 + parts[1] * x1 + .. is at least the bound."""

    def __init__(self, parts, bound):
        if not are_parts(parts):
            raise BadTest("parts")
        if not is_integer(bound):
            raise BadTest("bound")
        self.parts = tuple(parts)
        self.bound = bound

    def __len__(self):
        return len(self.parts)

    def amount(self, numbers):
        """The parts times the numbers, added."""
        if not isinstance(numbers, (list, tuple)) or len(numbers) != len(self.parts):
            raise BadNumber(numbers)
        total = 0
        for part, number in zip(self.parts, numbers):
            if not isinstance(number, int) or isinstance(number, bool):
                raise BadNumber(numbers)
            total = total + part * number
        return total

    def __call__(self, numbers):
        return self.amount(numbers) >= self.bound

    def __add__(self, other):
        if not isinstance(other, Test) or len(other.parts) != len(self.parts):
            raise BadOther("test")
        return Test([mine + its for mine, its in zip(self.parts, other.parts)], self.bound + other.bound)

    def __mul__(self, other):
        return scaled(self, other)

    def __rmul__(self, other):
        return scaled(self, other)

    def __neg__(self):
        return Test([-part for part in self.parts], -self.bound)

    def __invert__(self):
        return Test([-part for part in self.parts], 1 - self.bound)

    def tight(self):
        """The test with the least parts that holds for the same whole numbers."""
        common = 0
        for part in self.parts:
            common = gcd(common, part)
        if common == 0:
            return Test(self.parts, self.bound)
        return Test([part // common for part in self.parts], -(-self.bound // common))

    def __eq__(self, other):
        return isinstance(other, Test) and self.parts == other.parts and self.bound == other.bound

    def __str__(self):
        return f"{number_words(self.parts)} >= {number_word(self.bound)}"

    @classmethod
    def read(cls, text):
        """The test that has this text."""
        if not isinstance(text, str):
            raise BadText(0, 0)
        words = text.split(" ")
        parts = first_numbers(words)
        many = len(parts)
        if many == 0:
            raise BadText(0, 0)
        if words[many:many + 1] != [">="]:
            raise BadText(0, many)
        bounds = first_numbers(words[many + 1:])
        if len(bounds) == 0:
            raise BadText(0, many + 1)
        if len(words) > many + 2:
            raise BadText(0, many + 2)
        return cls(parts, bounds[0])


def is_list_of_integers(value):
    """Whether a value is a list or a tuple of integers."""
    if not isinstance(value, (list, tuple)):
        return False
    for item in value:
        if not isinstance(item, int) or isinstance(item, bool):
            return False
    return True


def are_parts(value):
    """Whether a value can be the parts of a test."""
    return is_list_of_integers(value) and 1 <= len(value) <= MOST_PARTS


def scaled(test, number):
    """The test with its parts and its bound times a number."""
    if not is_integer(number) or number < 0:
        raise BadNumber(number)
    return Test([part * number for part in test.parts], test.bound * number)


def first_numbers(words):
    """The numbers of the first words, as many as parts can stand, up to the first word that is none."""
    numbers = []
    for word in words[:MOST_PARTS]:
        number = read_number(word)
        if number is None:
            return numbers
        numbers.append(number)
    return numbers


def need_tests(tests):
    """Raises BadTest for what is no list of 1 to 20 tests with the same number of parts."""
    if not isinstance(tests, (list, tuple)) or not 1 <= len(tests) <= MOST_TESTS:
        raise BadTest(None)
    for at, test in enumerate(tests):
        if not isinstance(test, Test) or len(test.parts) != len(tests[0].parts):
            raise BadTest(at)


def rows_of(tests):
    """The pairs of parts and bound of tests."""
    return [(test.parts, test.bound) for test in tests]


def opposite(row):
    """The pair of the negated parts and the negated bound."""
    parts, bound = row
    return tuple([-part for part in parts]), -bound
