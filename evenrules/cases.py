"""Cases: what a deed can spoil, and the straight tests that tell for which weights it does."""

from evenrules.errors import BadDeeds, BadOther
from evenrules.keeping import kept
from evenrules.rules import TurnRule, need_rule
from evenrules.straight import Test, is_list_of_integers

DEEDS = ("put", "take")
# The breaks of one turn and of two turns, in order: a new node, and its side that is too heavy.
ONCE = (("light", "first"), ("light", "second"), ("top", "first"), ("top", "second"))
STUCK = ("inner", "none")
TWICE = (("inner", "none"), ("light", "first"), ("light", "second"), ("far", "first"), ("far", "second"),
         ("top", "first"), ("top", "second"))
# The sides of the new nodes, which of the unknowns they have: (a, c, d) behind one turn, or (a, e, f, d).
SHORT_ONCE = {"light": ((1, 0, 0), (0, 1, 0)), "top": ((1, 1, 0), (0, 0, 1))}
LONG_ONCE = {"light": ((1, 0, 0, 0), (0, 1, 1, 0)), "top": ((1, 1, 1, 0), (0, 0, 0, 1))}
LONG_TWICE = {"light": ((1, 0, 0, 0), (0, 1, 0, 0)), "far": ((0, 0, 1, 0), (0, 0, 0, 1)),
              "top": ((1, 1, 0, 0), (0, 0, 1, 1))}


class Case:
    """A deed, and the break of one turn, of two turns, or of both that it meets."""

    def __init__(self, deed, once, twice):
        self.deed = kept(deed)
        self.once = kept(once)
        self.twice = kept(twice)

    def __eq__(self, other):
        return (isinstance(other, Case) and self.deed == other.deed and self.once == other.once
                and self.twice == other.twice)


def cases(rule, deed):
    """All cases of a rule and a deed, in order."""
    need_rule(rule)
    if not is_deed(deed):
        raise BadDeeds(deed)
    if isinstance(rule, TurnRule):
        for once in ONCE:
            yield Case(deed, once, None)
        for twice in TWICE:
            yield Case(deed, None, twice)
    else:
        for once in ONCE:
            for twice in TWICE:
                yield Case(deed, once, twice)


def is_deed(value):
    """Whether a value is the word of a deed."""
    return value in DEEDS


def is_case(rule, value):
    """Whether a value is a case of a rule."""
    if not isinstance(value, Case) or not is_deed(value.deed):
        return False
    if not isinstance(rule, TurnRule):
        return value.once in ONCE and value.twice in TWICE
    if value.twice is None:
        return value.once in ONCE
    return value.once is None and value.twice in TWICE


def tests_of(rule, case):
    """The tests in the unknowns of a case that hold for just the numbers by which the rule breaks."""
    return tuple([Test(parts, bound) for parts, bound in case_rows(rule, case)])


def case_rows(rule, case):
    """The pairs of parts and bound of the tests of a case."""
    need_rule(rule)
    if not is_case(rule, case):
        raise BadOther("case")
    once, twice = case.once, case.twice
    is_short = twice is None or twice == STUCK
    rows = short_rows(rule, case.deed) if is_short else long_rows(rule, case.deed)
    if isinstance(rule, TurnRule):
        rows.append(turn_row(rule, twice is None, is_short))
    if once is not None:
        sides = SHORT_ONCE[once[0]] if is_short else LONG_ONCE[once[0]]
        rows.append(too_heavy(rule, sides, once[1]))
    if not is_short:
        rows.append(too_heavy(rule, LONG_TWICE[twice[0]], twice[1]))
    elif twice is not None:
        rows.append(((0, -1, 0), -1))
    return rows


def short_rows(rule, deed):
    """The tests in (a, c, d) that the sides of a node are not fair, but were, and that those below it are fair."""
    over, under = rule.times
    plus = rule.plus
    return [((1, 0, 0), 1), ((0, 1, 0), 1), ((0, 0, 1), 1), ((-over, under, under), plus + 1),
            ((over, -under, -under), -plus - (under if deed == "put" else over)),
            ((0, over, -under), -plus), ((0, -under, over), -plus)]


def long_rows(rule, deed):
    """As short_rows, in (a, e, f, d)."""
    over, under = rule.times
    plus = rule.plus
    return [((1, 0, 0, 0), 1), ((0, 1, 0, 0), 1), ((0, 0, 1, 0), 1), ((0, 0, 0, 1), 1),
            ((-over, under, under, under), plus + 1),
            ((over, -under, -under, -under), -plus - (under if deed == "put" else over)),
            ((0, over, over, -under), -plus), ((0, -under, -under, over), -plus),
            ((0, over, -under, 0), -plus), ((0, -under, over, 0), -plus)]


def turn_row(rule, is_once, is_short):
    """The test that a turn rule turns once, or twice."""
    over, under = rule.turn
    if is_once:
        return (0, -under, over), -rule.turn_plus
    return (0, under, -over) if is_short else (0, under, under, -over), rule.turn_plus + 1


def too_heavy(rule, sides, side):
    """The test that one of both sides of a new node is too heavy."""
    over, under = rule.times
    heavy, other = sides if side == "first" else sides[::-1]
    return tuple([under * mine - over * its for mine, its in zip(heavy, other)]), rule.plus + 1


def numbers_break(rule, case, numbers):
    """Whether a value is a tuple of integers that keeps all tests of a case."""
    rows = case_rows(rule, case)
    if not isinstance(numbers, tuple) or not is_list_of_integers(numbers) or len(numbers) != len(rows[0][0]):
        return False
    return keep_long(rows, numbers) if len(numbers) == 4 else keep_short(rows, numbers)


def keep_short(rows, numbers):
    """Whether three numbers keep all rows."""
    one, two, three = numbers
    for parts, bound in rows:
        if parts[0] * one + parts[1] * two + parts[2] * three < bound:
            return False
    return True


def keep_long(rows, numbers):
    """Whether four numbers keep all rows."""
    one, two, three, four = numbers
    for parts, bound in rows:
        if parts[0] * one + parts[1] * two + parts[2] * three + parts[3] * four < bound:
            return False
    return True
