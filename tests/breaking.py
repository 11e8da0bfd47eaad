"""What a deed can spoil, by the words of point [6], with all numbers gone through."""

from evenrules.rules import TurnRule
from shaping import is_fair_pair

ONCE = [("light", "first"), ("light", "second"), ("top", "first"), ("top", "second")]
TWICE = [("inner", "none"), ("light", "first"), ("light", "second"), ("far", "first"), ("far", "second"),
         ("top", "first"), ("top", "second")]


def breaks_of(rule):
    """The breaks of one turn and of two turns of the cases of a rule, in order."""
    if isinstance(rule, TurnRule):
        return [(once, None) for once in ONCE] + [(None, twice) for twice in TWICE]
    return [(once, twice) for once in ONCE for twice in TWICE]


def is_too_heavy(rule, sides, side):
    (p, q), k = rule.times, rule.plus
    x, y = sides if side == "first" else sides[::-1]
    return q * x - p * y >= k + 1


def is_left_by(rule, deed, a, b):
    """Whether sides of these weights are not fair, but were ahead of a deed."""
    ahead = (a, b - 1) if deed == "put" else (a + 1, b)
    return b > a and not is_fair_pair(rule, a, b) and is_fair_pair(rule, *ahead)


def breaks_once(rule, once, a, c, d):
    nodes = {"light": (a, c), "top": (a + c, d)}
    return is_too_heavy(rule, nodes[once[0]], once[1])


def breaks_twice(rule, twice, a, e, f, d):
    nodes = {"light": (a, e), "far": (f, d), "top": (a + e, f + d)}
    return is_too_heavy(rule, nodes[twice[0]], twice[1])


def turn_fits(rule, once, c, d):
    """Whether a turn rule turns so often as a case tells."""
    if not isinstance(rule, TurnRule):
        return True
    (t, s), r = rule.turn, rule.turn_plus
    return (s * c <= t * d + r) == (once is not None)


def numbers_of_case(rule, once, twice, a, b):
    """All numbers with these weights that keep the tests of a case, but for those that a deed left them; by c, then e."""
    for c in range(1, b):
        d = b - c
        if not is_fair_pair(rule, c, d) or not turn_fits(rule, once, c, d):
            continue
        if once is not None and not breaks_once(rule, once, a, c, d):
            continue
        if twice is None or twice == ("inner", "none"):
            if twice is None or c == 1:
                yield (a, c, d)
            continue
        for e in range(1, c):
            if is_fair_pair(rule, e, c - e) and breaks_twice(rule, twice, a, e, c - e, d):
                yield (a, e, c - e, d)


def first_break(rule, deeds, a, b):
    """The deed, the breaks and the numbers of the first break at these weights; None if there is none."""
    for deed in deeds:
        if is_left_by(rule, deed, a, b):
            for once, twice in breaks_of(rule):
                for numbers in numbers_of_case(rule, once, twice, a, b):
                    return deed, once, twice, numbers
    return None


def heavy_weights(rule, a):
    """The weights above those that are fair beside a, as far as one key can lead to them."""
    (p, q), k = rule.times, rule.plus
    return range((p * a + k) // q + 1, (p * (a + 1) + k) // q + 1)


def least_break(rule, deeds, most):
    """The first break of all with a lighter side of at most this weight; None if there is none."""
    for a in range(1, most + 1):
        for b in heavy_weights(rule, a):
            found = first_break(rule, deeds, a, b)
            if found is not None:
                return found
    return None
