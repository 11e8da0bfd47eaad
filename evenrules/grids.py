"""Grids: all whole numbers for which some amounts are told, as a point and steps from it."""

from math import gcd


class Grid:
    """A point, and all that multiples of the steps lead to from it; a grid never changes."""

    def __init__(self, point, steps, told=()):
        self.point = point
        self.steps = steps
        # Of each told amount: the index of its test, the parts, and the step that was given up for it.
        self.told = told

    def amounts(self, parts):
        """A pair: an amount of parts at the grid, and the gap between all its amounts; 0 if it has just one."""
        gap = 0
        for step in self.steps:
            gap = gcd(gap, dot(parts, step))
        return dot(parts, self.point), gap

    def with_told(self, index, parts, amount):
        """The grid where parts, of which it has several amounts, have this one of them."""
        first, *others = sorted_out(parts, self.steps)
        times = (amount - dot(parts, self.point)) // dot(parts, first)
        return Grid(moved(self.point, times, first), others, (*self.told, (index, parts, first)))

    def odd_sum(self, index, parts, many):
        """So many weights and the divisor of an odd sum for parts with an amount that the grid lacks."""
        told = [*self.told, (index, parts, sorted_out(parts, self.steps)[0])]
        shares, divisor = last_shares(told)
        common = divisor
        for share in shares:
            common = gcd(common, share)
        weights = [0] * many
        for share, row in zip(shares, told):
            weights[row[0]] = share // common
        return weights, divisor // common


def whole_grid(many):
    """The grid of all rows of so many whole numbers."""
    return Grid([0] * many, units(many))


def units(many):
    """The steps by 1 in one of so many unknowns."""
    return [[1 if at == place else 0 for at in range(many)] for place in range(many)]


def dot(one, other):
    """The products of both rows, added."""
    return sum([mine * its for mine, its in zip(one, other)])


def moved(point, times, step):
    """The point that is so many steps away."""
    return [own + times * way for own, way in zip(point, step)]


def sorted_out(parts, steps):
    """Steps of the same grid of which only the first one changes the amount of parts, and raises it."""
    steps = list(steps)
    lead, other = least_changes(parts, steps)
    while other is not None:
        times = dot(parts, steps[other]) // dot(parts, steps[lead])
        steps[other] = moved(steps[other], -times, steps[lead])
        lead, other = least_changes(parts, steps)
    first = steps.pop(lead)
    if dot(parts, first) < 0:
        first = [-way for way in first]
    return [first, *steps]


def least_changes(parts, steps):
    """The places of the two steps that change the amount of parts least, but do; None for one that lacks."""
    lead, other = None, None
    for place, step in enumerate(steps):
        change = abs(dot(parts, step))
        if change > 0 and (lead is None or change < abs(dot(parts, steps[lead]))):
            lead, other = place, lead
        elif change > 0 and (other is None or change < abs(dot(parts, steps[other]))):
            other = place
    return lead, other


def last_shares(told):
    """Shares of told rows, over a divisor, of which the step of the last one has 1 and those ahead of it have 0."""
    # The step of a row leaves the amounts of all rows ahead of it, so the shares are found from the last row back.
    _, last_parts, last_step = told[-1]
    shares, divisor = [1], dot(last_parts, last_step)
    for place in range(len(told) - 2, -1, -1):
        _, parts, step = told[place]
        have = sum([share * dot(row[1], step) for share, row in zip(shares, told[place + 1:])])
        lead = dot(parts, step)
        shares = [-have, *[share * lead for share in shares]]
        divisor = divisor * lead
    return shares, divisor
