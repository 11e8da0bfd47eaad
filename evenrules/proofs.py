"""Proofs: the search for few papers that rows have no whole numbers, where they have fractions.

The rows are pairs of parts and bound. A plan of a paper is a tuple: (SUM, weights), (ODD, weights, divisor), or
(SPLIT, index, weights, plans).
"""

from math import gcd

from evenrules.grids import whole_grid
from evenrules.straight import opposite

SUM = "sum"
ODD = "odd"
SPLIT = "split"
MOST_CHOICES = 32
# So many papers a split has by a guess that did well in trials.
SPLIT_COST = 10
# One search after the other: how many papers a plan may have, how many splits are tried at a spot, and at how many
# spots more than one. Short plans are looked for with care; of long ones the first one that is found will do.
SEARCHES = ((4, 32, 50), (12, 32, 100), (40, 32, 200), (5000, 1, 0), (5000, 2, 4000))


class Spot:
    """What is left to prove behind some splits: a board, a grid, and how many tests the list has by now."""

    def __init__(self, rows, board, grid, many):
        self.rows = rows
        self.board = board
        self.grid = grid
        self.many = many

    def told_further(self, name, above):
        """The spot where two tests more tell how far the amount of the test with this name is above its bound."""
        parts, bound = self.rows[name]
        board = self.board.copied()
        board.tell(name, above, self.many)
        return Spot(self.rows, board, self.grid.with_told(self.many, parts, bound + above), self.many + 2)


class Choice:
    """A split at a spot by the test with a name; its amounts are told by how far they are above its bound."""

    def __init__(self, spot, name):
        top, _ = spot.board.climb_up(name)
        self.name = name
        self.weights = spot.board.weigh(top, spot.many)
        self.weights[name] += spot.board.scale
        self.many = top[0] // spot.board.scale + 1
        self.parts, bound = spot.rows[name]
        start, self.gap = spot.grid.amounts(self.parts)
        self.first = (start - bound) % self.gap

    def cost(self):
        """A guess at the number of papers: an amount that the grid has needs a split of its own."""
        return self.many + SPLIT_COST * max(0, (self.many - 1 - self.first) // self.gap + 1)

    def low_plan(self, spot):
        """A pair: how far above its bound the amount is at least, and the plan of the amounts below."""
        bottom, _ = spot.board.climb_down(self.name)
        weights = [*spot.board.weigh(bottom, spot.many), 0, spot.board.scale]
        return -(bottom[0] // spot.board.scale), (SUM, lowered(weights))

    def odd_plan(self, spot):
        """The plan of the amounts that the grid lacks."""
        weights, divisor = spot.grid.odd_sum(spot.many, self.parts, spot.many + 2)
        return ODD, weights, divisor


class Search:
    """How long a plan may be looked for."""

    def __init__(self, ways, spots):
        self.ways = ways
        self.spots = spots

    def ways_at_next(self):
        """How many splits shall be tried at the next spot."""
        self.spots -= 1
        return self.ways if self.spots >= 0 else 1


def find_proof(rows, names, board, many):
    """A plan for rows without whole numbers; None if none with few enough papers was found.

    The names tell the rows whose amounts have a greatest one. Only these matter; the board has them alone.
    """
    grid = whole_grid(many)
    for name in names:
        parts, bound = rows[name]
        start, gap = grid.amounts(parts)
        if gap > 0 and opposite(rows[name]) in rows:
            if (bound - start) % gap != 0:
                weights, divisor = grid.odd_sum(name, parts, len(rows))
                return ODD, weights, divisor
            grid = grid.with_told(name, parts, bound)
            board.fix(name, rows.index(opposite(rows[name])))
    spot = Spot({name: rows[name] for name in names}, board, grid, len(rows))
    for most, ways, spots in SEARCHES:
        found = proof(spot, most, Search(ways, spots))
        if found is not None:
            return found[1]
    return None


def proof(spot, most, search):
    """A pair: a number of papers, at most so many, and a plan with so many; None if none was found."""
    best = None
    for choice in choices(spot)[:search.ways_at_next()]:
        if 1 + choice.many > most:
            continue
        found = split_proof(spot, choice, most, search)
        if found is not None:
            best, most = found, found[0] - 1
    return best


def choices(spot):
    """The splits of a spot that tell something, those first that seem to have few papers."""
    found = []
    for name, row in spot.rows.items():
        if spot.grid.amounts(row[0])[1] > 0:
            found.append(Choice(spot, name))
    order = sorted([int(choice.cost() * MOST_CHOICES + at) for at, choice in enumerate(found)])
    return [found[code % MOST_CHOICES] for code in order]


def split_proof(spot, choice, most, search):
    """As proof, by one choice."""
    low, low_plan = choice.low_plan(spot)
    odd_plan = choice.odd_plan(spot) if choice.gap > 1 else None
    papers = 1 + choice.many
    plans = []
    for above in range(choice.many):
        if above < low:
            plans.append(low_plan)
        elif (above - choice.first) % choice.gap != 0:
            plans.append(odd_plan)
        else:
            found = proof(spot.told_further(choice.name, above), most - papers + 1, search)
            if found is None:
                return None
            papers += found[0] - 1
            plans.append(found[1])
    return papers, (SPLIT, choice.name, lowered(choice.weights), plans)


def lowered(weights):
    """The weights without a common divisor."""
    common = 0
    for weight in weights:
        common = gcd(common, weight)
    return [weight // common for weight in weights]
