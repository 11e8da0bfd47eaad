"""Grips: the search for the least numbers by which a rule breaks at told weights."""

from evenrules.cases import case_rows
from evenrules.rules import greatest_beside


class Grip:
    """The tests of a case, told by the weights a and b, by c, and by e where it is an unknown; d is b - c, f is c - e.

    A row is a tuple: how many times a, b, c and e are at least a bound.
    """

    def __init__(self, rule, case):
        self.case = case
        rows = [row_of_weights(parts, bound) for parts, bound in case_rows(rule, case)]
        self.lows = [row for row in rows if row[3] > 0]
        self.highs = [row for row in rows if row[3] < 0]
        self.plain = [row for row in rows if row[3] == 0]
        # Between each two bounds of e there is a fraction: that is told without e.
        for low in self.lows:
            for high in self.highs:
                self.plain.append(tuple([mine * -high[3] + its * low[3] for mine, its in zip(low, high)]))

    def numbers_at(self, light, heavy):
        """The numbers with these weights that keep the tests, of the least c, with the least e; None without any."""
        ends = self.inner_ends(light, heavy)
        if ends is None:
            return None
        # The bounds of e part by an eleventh or more from one c to the next, if at all. So this soon finds an e.
        for inner in range(ends[0], ends[1] + 1):
            if len(self.lows) == 0:
                return (light, inner, heavy - inner)
            near = self.least_near(light, heavy, inner)
            if near is not None:
                return (light, near, inner - near, heavy - inner)
        return None

    def inner_ends(self, light, heavy):
        """The least and the greatest c that fractions allow; None if a test without c does not hold."""
        low, high = 1, heavy - 1
        for by_light, by_heavy, by_inner, _, bound in self.plain:
            rest = bound - by_light * light - by_heavy * heavy
            if by_inner > 0:
                end = -(-rest // by_inner)
                low = end if end > low else low
            elif by_inner < 0:
                end = -rest // -by_inner
                high = end if end < high else high
            elif rest > 0:
                return None
        return low, high

    def least_near(self, light, heavy, inner):
        """The least e at this c; None if there is none."""
        low, high = 1, inner - 1
        for by_light, by_heavy, by_inner, by_near, bound in self.lows:
            end = -((by_light * light + by_heavy * heavy + by_inner * inner - bound) // by_near)
            low = end if end > low else low
        for by_light, by_heavy, by_inner, by_near, bound in self.highs:
            end = (by_light * light + by_heavy * heavy + by_inner * inner - bound) // -by_near
            high = end if end < high else high
        return low if low <= high else None


def row_of_weights(parts, bound):
    """The row of a test in (a, c, d) or (a, e, f, d)."""
    if len(parts) == 3:
        return (parts[0], parts[2], parts[1] - parts[2], 0, bound)
    return (parts[0], parts[3], parts[2] - parts[3], parts[1] - parts[2], bound)


def heavy_ends(rule, deed, light):
    """The least and the greatest b at which a deed can leave a node with a lighter side of this weight unfair."""
    least = greatest_beside(rule, light) + 1
    return least, least if deed == "put" else greatest_beside(rule, light + 1)
