"""Whether some whole numbers keep all tests of a list, with a point or a paper that there are none."""

from evenrules.boards import board_of, settle
from evenrules.checks import is_within
from evenrules.errors import BadNumber, TooMany
from evenrules.grids import dot, moved
from evenrules.keeping import kept
from evenrules.papers import MOST_PAPERS
from evenrules.points import find_point
from evenrules.proofs import ODD, SUM, find_proof, lowered
from evenrules.straight import need_tests, rows_of


class Answer:
    """What `settled` tells."""

    def is_just(self, other):
        """Whether this is one and the same object as another one."""
        return self is other


class Point(Answer):
    """Whole numbers that keep all tests."""

    def __init__(self, numbers):
        self.numbers = kept(numbers)

    def __eq__(self, other):
        return isinstance(other, Point) and self.numbers == other.numbers

    def __bool__(self):
        return True


class Sum(Answer):
    """Weights from 0 on by which the parts add up to nothing, the bounds to more."""

    def __init__(self, weights):
        self.weights = kept(weights)

    def __eq__(self, other):
        return isinstance(other, Sum) and self.weights == other.weights

    def __bool__(self):
        return False


class Split(Answer):
    """A paper for each amount that a test can have, and the weights that show how great it can be."""

    def __init__(self, at, weights, papers):
        self.at = kept(at)
        self.weights = kept(weights)
        self.papers = kept(papers)

    def __eq__(self, other):
        return (isinstance(other, Split) and self.at == other.at and self.weights == other.weights
                and self.papers == other.papers)

    def __bool__(self):
        return False


class Odd(Answer):
    """Weights by which the parts of equations add up to multiples of a divisor, their bounds do not."""

    def __init__(self, weights, divisor):
        self.weights = kept(weights)
        self.divisor = kept(divisor)

    def __eq__(self, other):
        return isinstance(other, Odd) and self.weights == other.weights and self.divisor == other.divisor

    def __bool__(self):
        return False


class Top:
    """How great an unknown can be, high / low, and the weights that show it."""

    def __init__(self, high, low, weights):
        self.high = kept(high)
        self.low = kept(low)
        self.weights = kept(weights)

    def __eq__(self, other):
        return (isinstance(other, Top) and self.high == other.high and self.low == other.low
                and self.weights == other.weights)


def settled(tests):
    """A Point whose numbers keep all tests, or a paper that no whole numbers do."""
    need_tests(tests)
    rows, many = rows_of(tests), len(tests[0].parts)
    names = list(range(len(rows)))
    board = board_of(rows, names, many)
    weights = settle(board, names, len(rows))
    if weights is not None:
        return Sum(tuple(lowered(weights)))
    way, ended = way_out(board, names)
    numbers = find_point([rows[name] for name in ended], many)
    if numbers is not None:
        return Point(tuple(far_point(rows, numbers, way)))
    board = board_of(rows, ended, many)
    settle(board, ended, len(rows))
    plan = find_proof(rows, ended, board, many)
    if plan is None:
        raise TooMany("papers", MOST_PAPERS)
    return paper_of(plan)


def way_out(board, names):
    """A direction that raises all amounts without a greatest one, and the names of the tests that have one."""
    way, ended = [0] * board.many, []
    for name in names:
        _, place = board.climb_up(name)
        if place is None:
            ended.append(name)
        else:
            way = moved(way, 1, lowered(board.way(place)))
    return way, ended


def far_point(rows, numbers, way):
    """The first point on the way out from numbers that keeps all rows."""
    times = 0
    for parts, bound in rows:
        lack, gain = bound - dot(parts, numbers), dot(parts, way)
        if lack > times * gain:
            times = -(-lack // gain)
    return moved(numbers, times, way)


def paper_of(plan):
    """The paper of a plan of proofs.py."""
    if plan[0] == SUM:
        return Sum(tuple(plan[1]))
    if plan[0] == ODD:
        return Odd(tuple(plan[1]), plan[2])
    _, at, weights, plans = plan
    return Split(at, tuple(weights), tuple([paper_of(inner) for inner in plans]))


def top_of(tests, at):
    """How great an unknown is: a Top, None if it has no greatest one, or a Sum if no fractions keep the tests."""
    need_tests(tests)
    many = len(tests[0].parts)
    if not is_within(at, 0, many - 1):
        raise BadNumber(at)
    return top_of_rows(rows_of(tests), at, many)


def top_of_rows(rows, at, many):
    """As top_of, for pairs of parts and bound in so many unknowns."""
    names = list(range(len(rows)))
    board = board_of(rows, names, many)
    board.forget_unknowns(at)
    weights = settle(board, names, len(rows))
    if weights is not None:
        return Sum(tuple(lowered(weights)))
    if not board.is_tied(-1 - at):
        return None
    row, place = board.climb_up(-1 - at)
    if place is not None:
        return None
    high, low, *weights = lowered([row[0], board.scale, *board.weigh(row, len(rows))])
    return Top(high, low, tuple(weights))
