"""Cases: what a deed can spoil, and the straight tests that tell for which weights it does."""

from evenrules.errors import BadDeeds, BadOther
from evenrules.grids import dot, moved, units
from evenrules.keeping import kept
from evenrules.rules import TurnRule, need_rule
from evenrules.straight import Test, is_list_of_integers

DEEDS = ("put", "take")
# The breaks of one turn and of two turns, in order: a new node, and its side that is too heavy.
ONCE = (("light", "first"), ("light", "second"), ("top", "first"), ("top", "second"))
STUCK = ("inner", "none")
TWICE = (("inner", "none"), ("light", "first"), ("light", "second"), ("far", "first"), ("far", "second"),
         ("top", "first"), ("top", "second"))


class Case:
    """A deed, and the break of one turn, of two turns, or of both that it meets."""

    def __init__(self, deed, once, twice):
        self.deed = kept(deed)
        self.once = kept(once)
        self.twice = kept(twice)

    def __eq__(self, other):
        return (isinstance(other, Case) and self.deed == other.deed and self.once == other.once
                and self.twice == other.twice)


class Weights:
    """The weights that a case tells of, each by its parts of the unknowns."""

    def __init__(self, is_near_told):
        self.near, self.far = None, None
        if is_near_told:
            self.light, self.near, self.far, self.outer = units(4)
            self.inner = moved(self.near, 1, self.far)
        else:
            self.light, self.inner, self.outer = units(3)
        self.heavy = moved(self.inner, 1, self.outer)

    def of_once(self, node):
        """The sides of a new node of one turn."""
        if node == "light":
            return self.light, self.inner
        return moved(self.light, 1, self.inner), self.outer

    def of_twice(self, node):
        """The sides of a new node of two turns."""
        if node == "light":
            return self.light, self.near
        if node == "far":
            return self.far, self.outer
        return moved(self.light, 1, self.near), moved(self.far, 1, self.outer)


def cases(rule, deed):
    """All cases of a rule and a deed, in order."""
    need_rule(rule)
    if not is_deed(deed):
        raise BadDeeds(deed)
    if isinstance(rule, TurnRule):
        for once in ONCE:
            yield Case(deed, once, None)
        for twice in TWICE:
            yield Case(deed, None, twice)
    else:
        for once in ONCE:
            for twice in TWICE:
                yield Case(deed, once, twice)


def is_deed(value):
    """Whether a value is the word of a deed."""
    return value in DEEDS


def is_case(rule, value):
    """Whether a value is a case of a rule."""
    if not isinstance(value, Case) or not is_deed(value.deed):
        return False
    if not isinstance(rule, TurnRule):
        return value.once in ONCE and value.twice in TWICE
    if value.twice is None:
        return value.once in ONCE
    return value.once is None and value.twice in TWICE


def tests_of(rule, case):
    """The tests in the unknowns of a case that hold for just the numbers by which the rule breaks."""
    return tuple([Test(parts, bound) for parts, bound in case_rows(rule, case)])


def case_rows(rule, case):
    """The pairs of parts and bound of the tests of a case."""
    need_rule(rule)
    if not is_case(rule, case):
        raise BadOther("case")
    weights = Weights(case.twice is not None and case.twice != STUCK)
    rows = [(parts, 1) for parts in units(len(weights.light))]
    rows.extend(balance_rows(rule, case.deed, weights))
    rows.extend(turn_rows(rule, case, weights))
    if case.once is not None:
        rows.append(too_heavy(rule, weights.of_once(case.once[0]), case.once[1]))
    if case.twice == STUCK:
        rows.append(([-part for part in weights.inner], -1))
    elif case.twice is not None:
        rows.append(too_heavy(rule, weights.of_twice(case.twice[0]), case.twice[1]))
    return rows


def balance_rows(rule, deed, weights):
    """The tests that the sides of the node are not fair, but were, and that those below it are fair."""
    over, under = rule.times
    gain = under if deed == "put" else over
    rows = [compared(under, weights.heavy, over, weights.light, rule.plus + 1),
            compared(over, weights.light, under, weights.heavy, -rule.plus - gain)]
    rows.extend(fair_rows(rule, weights.inner, weights.outer))
    if weights.near is not None:
        rows.extend(fair_rows(rule, weights.near, weights.far))
    return rows


def fair_rows(rule, one, other):
    """The tests that two weights are fair."""
    over, under = rule.times
    return [compared(over, one, under, other, -rule.plus), compared(over, other, under, one, -rule.plus)]


def turn_rows(rule, case, weights):
    """The test that a turn rule turns so often as a case tells; a try rule needs none."""
    if not isinstance(rule, TurnRule):
        return []
    over, under = rule.turn
    if case.twice is None:
        return [compared(over, weights.outer, under, weights.inner, -rule.turn_plus)]
    return [compared(under, weights.inner, over, weights.outer, rule.turn_plus + 1)]


def too_heavy(rule, sides, side):
    """The test that one of both sides of a new node is too heavy."""
    over, under = rule.times
    first, second = sides
    if side == "first":
        return compared(under, first, over, second, rule.plus + 1)
    return compared(under, second, over, first, rule.plus + 1)


def compared(times, one, less, other, bound):
    """The test that so many times one weight, less so many times another one, is at least a bound."""
    return [times * mine - less * its for mine, its in zip(one, other)], bound


def numbers_break(rule, case, numbers):
    """Whether a value is a tuple of integers that keeps all tests of a case."""
    rows = case_rows(rule, case)
    if not isinstance(numbers, tuple) or not is_list_of_integers(numbers) or len(numbers) != len(rows[0][0]):
        return False
    return all([dot(parts, numbers) >= bound for parts, bound in rows])
