"""What integers, keys and names are, asked of any values."""

from evenrules.errors import BadKey, BadName, BadOther

KEY_BOUND = 10 ** 30
NAME_LENGTH = 8
LETTERS = "abcdefghijklmnopqrstuvwxyz"


def is_integer(value):
    """Whether a value is an integer; True and False are none."""
    return isinstance(value, int) and not isinstance(value, bool)


def is_within(value, least, most):
    """Whether a value is an integer from least to most."""
    return is_integer(value) and least <= value <= most


def is_key(value):
    """Whether a value is an integer of at most 30 digits."""
    return is_integer(value) and -KEY_BOUND < value < KEY_BOUND


def is_name(value):
    """Whether a value is a string of 1 to 8 letters from a to z."""
    if not isinstance(value, str) or not 1 <= len(value) <= NAME_LENGTH:
        return False
    return all([mark in LETTERS for mark in value])


def need_key(value):
    """Raises BadKey for what is no key."""
    if not is_key(value):
        raise BadKey(value)


def need_name(value):
    """Raises BadName for what is no name."""
    if not is_name(value):
        raise BadName(value)


def need_pairs(items):
    """Raises BadOther for what is no list or tuple of pairs."""
    if not isinstance(items, (list, tuple)):
        raise BadOther("items")
    for item in items:
        if not isinstance(item, tuple) or len(item) != 2:
            raise BadOther("items")
