"""The looker for what is told of fill rules."""

from evenrules.checks import is_integer, is_within
from evenrules.dealing import behind_put, behind_take, crucial_of, is_kept, is_right_for, least_of
from evenrules.fills import LEAST_SIZE, MOST_SIZE, Fits, Spill, Spills, need_fill_rule
from evenrules.straight import is_list_of_integers

MOST_TOLD = 1000
MOST_PAGES = 2000


def shows_fill(rule, value):
    """Whether any value is a right Fits, Spills or Spill of a fill rule."""
    need_fill_rule(rule)
    if isinstance(value, Fits):
        return is_fits(rule, value.size, value.wrong)
    if isinstance(value, Spills):
        return is_spills(rule, value.size, value.step)
    return isinstance(value, Spill) and is_spill(rule, value)


def growth_of(rule):
    """By how much more the least fill of the crucial pages grows with each step than it may; below 0 for less."""
    over, under = rule.times
    many = crucial_of(rule)
    return many * over - (many - 1) * under


def is_fits(rule, size, wrong):
    """Whether a rule is right for all sizes from this one on, and wrong for just these below it."""
    if not is_within(size, LEAST_SIZE, MOST_TOLD) or not is_whole_tuple(wrong) or growth_of(rule) > 0:
        return False
    for other in range(size, size + rule.times[1]):
        if not is_right_for(rule, other):
            return False
    found = [other for other in range(LEAST_SIZE, size) if not is_right_for(rule, other)]
    return list(wrong) == found and (size == LEAST_SIZE or found[-1:] == [size - 1])


def is_spills(rule, size, step):
    """Whether a rule is wrong for this size and all that are more by a multiple of the step."""
    if not is_within(size, LEAST_SIZE, MOST_TOLD) or not is_integer(step) or step != rule.times[1]:
        return False
    if growth_of(rule) < 0:
        return False
    # With a least fill below 1 the rule is wrong. Behind that the first size decides, as the growth is not below 0.
    while least_of(rule, size) < 1:
        size = size + step
    return not is_right_for(rule, size)


def is_spill(rule, spill):
    """Whether a row that is not young keeps a rule, and one deed at its beginning spoils it."""
    most, fills, behind = spill.most, spill.fills, spill.behind
    if not is_within(most, LEAST_SIZE, MOST_SIZE) or not 1 <= least_of(rule, most) <= most:
        return False
    if not is_whole_tuple(fills) or not rule.width < len(fills) <= MOST_PAGES or not is_kept(rule, most, fills):
        return False
    if spill.deed == "put":
        row, _ = behind_put(rule, most, fills, 0)
    elif spill.deed == "take":
        row, _ = behind_take(rule, most, fills, 0)
    else:
        return False
    if not is_whole_tuple(behind) or list(behind) != row:
        return False
    return len(row) > rule.width and not is_kept(rule, most, row)


def is_whole_tuple(value):
    """Whether a value is a tuple of integers."""
    return isinstance(value, tuple) and is_list_of_integers(value)
