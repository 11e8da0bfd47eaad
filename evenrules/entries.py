"""Keys and their values as words of texts: a value is none or an integer there."""

from evenrules.checks import is_key
from evenrules.words import number_word, read_number

NONE = "none"


def can_be_written(value):
    """Whether a value of a key has a word."""
    return value is None or is_key(value)


def value_word(value):
    """The word of a value."""
    return NONE if value is None else number_word(value)


def can_be_value(word):
    """Whether a word is that of a value."""
    return word == NONE or is_key(read_number(word))


def read_value(word):
    """The value that has this word."""
    return None if word == NONE else read_number(word)
