"""The looker for the answers of `within`."""

from evenrules.checks import is_within
from evenrules.look_settled import shows_none
from evenrules.rules import MOST_WEIGHT, are_fair
from evenrules.within import Parted, Within, tests_within


def shows_within(one, other, value):
    """Whether any value is a right Within of two rules, or a Parted of weights that are fair by one alone."""
    tests = tests_within(one, other)
    if isinstance(value, Within):
        return shows_none(tests, value.paper)
    if not isinstance(value, Parted):
        return False
    light, heavy = value.light, value.heavy
    if not is_within(light, 1, MOST_WEIGHT) or not is_within(heavy, 1, MOST_WEIGHT):
        return False
    return are_fair(one, light, heavy) and not are_fair(other, light, heavy)
