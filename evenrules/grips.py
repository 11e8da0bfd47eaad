"""Grips: the least numbers by which a rule breaks at told weights of the sides of a node."""

from evenrules.cases import ONCE, STUCK, TWICE
from evenrules.rules import TurnRule, greatest_beside, least_beside, least_part


class Grip:
    """A node that a deed has left with the sides a and b, which are not fair.

    Each test tells an end for c or for e; the least c and e between the ends are the least numbers of a case.
    Three breaks never have numbers. ("far", "first"): f is less than c, which is fair beside d. ("top", "second") of
    either kind: the outer side is lighter than b, and b is fair beside a with one key more.
    """

    def __init__(self, rule, light, heavy):
        self.own_rule = rule
        self.light = light
        self.heavy = heavy
        # A side below this is too light beside a; the other one is too heavy from this on.
        self.least_light = least_beside(rule, light)
        self.too_heavy = greatest_beside(rule, light) + 1
        over, under = rule.times
        # From this weight on, what the heavier side gives to the lighter one makes it too heavy for the rest.
        self.too_much = -((under * light - over * heavy - rule.plus - 1) // (over + under))

    def first_break(self):
        """The breaks and the numbers of the first case that has some here; None if none has."""
        if not isinstance(self.own_rule, TurnRule):
            least = least_part(self.own_rule, self.heavy)
            return self.first_of(ONCE, TWICE, (least, self.heavy - least))
        found = self.first_of(ONCE, (None,), turn_ends(self.own_rule, self.heavy, 1))
        return found if found is not None else self.first_of((None,), TWICE, turn_ends(self.own_rule, self.heavy, 2))

    def first_of(self, onces, twices, ends):
        """As first_break, of the cases with these breaks of one turn and of two turns, c between two ends."""
        for once in onces:
            low, high = self.once_ends(once, ends)
            if low <= high:
                for twice in twices:
                    numbers = self.numbers_of(twice, low, high)
                    if numbers is not None:
                        return once, twice, numbers
        return None

    def once_ends(self, once, ends):
        """The ends of c between two ends with a break of one turn."""
        low, high = ends
        if once is None:
            return low, high
        if once == ("light", "first"):
            return low, high if high < self.least_light else self.least_light - 1
        if once == ("light", "second"):
            return low if low > self.too_heavy else self.too_heavy, high
        if once == ("top", "first"):
            return low if low > self.too_much else self.too_much, high
        return 1, 0

    def numbers_of(self, twice, low, high):
        """The least numbers with c from low to high and a break of two turns; None without any."""
        if twice is None:
            return (self.light, low, self.heavy - low)
        if twice == STUCK:
            return (self.light, 1, self.heavy - 1) if low == 1 else None
        ends = self.near_ends(twice, low if low > 1 else 2)
        if ends is None or ends[0] > high:
            return None
        inner, near = ends
        return (self.light, near, inner - near, self.heavy - inner)

    def near_ends(self, twice, inner):
        """The least c from this one on that leaves room for e, and the least e; None without any.

        The more c is, the wider apart are the least e and the greatest one, and the less is d.
        """
        if twice == ("light", "second"):
            return self.with_near(self.too_heavy, inner)
        if twice == ("top", "first"):
            return self.with_near(self.too_much, inner)
        near = least_part(self.own_rule, inner)
        if twice == ("light", "first"):
            return (inner, near) if near < self.least_light else None
        if twice == ("far", "second"):
            far = least_beside(self.own_rule, self.heavy - inner) - 1
            return (inner, near if near > inner - far else inner - far) if near <= far else None
        return None

    def with_near(self, least, inner):
        """The least c from this one on that leaves room for an e of at least so much, and the least e."""
        lowest = least + least_beside(self.own_rule, least)
        inner = inner if inner > lowest else lowest
        near = least_part(self.own_rule, inner)
        return inner, near if near > least else least


def turn_ends(rule, heavy, turns):
    """The ends of c in a fair heavier side of this weight, where a turn rule turns so often."""
    low = least_part(rule, heavy)
    high = heavy - low
    over, under = rule.turn
    most = (over * heavy + rule.turn_plus) // (over + under)
    if turns == 1:
        return low, high if high < most else most
    return low if low > most else most + 1, high


def heavy_ends(rule, deed, light):
    """The least and the greatest b at which a deed can leave a node with a lighter side of this weight unfair."""
    least = greatest_beside(rule, light) + 1
    return least, least if deed == "put" else greatest_beside(rule, light + 1)
