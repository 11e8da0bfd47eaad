"""The looker for papers that no whole numbers keep all tests of a list; it adds and compares."""

from evenrules.checks import is_integer, is_within
from evenrules.papers import MOST_PAPERS
from evenrules.settled import Answer, Odd, Split, Sum
from evenrules.straight import need_tests, rows_of

MOST_DEPTH = 20


class Level:
    """The tests that papers stand for: for each unknown its parts in all of them, and the bounds.

    The papers of a split have the same tests but for the bounds of the last two: these change by the gains from one
    paper to the next, and the bounds are those of the first one.
    """

    def __init__(self, columns, bounds, gains, splits):
        self.columns = columns
        self.bounds = bounds
        self.gains = gains
        # How many splits stand around the papers.
        self.splits = splits
        # Of the tests that odd sums have asked for: whether their opposites are there for all papers.
        self.paired = {}

    def level_inside(self, at):
        """The level of the papers of a split by the test with an index."""
        columns = [[*column, column[at], -column[at]] for column in self.columns]
        bound = self.bounds[at]
        return Level(columns, [*self.bounds, bound, -bound], [*[0] * len(self.bounds), 1, -1], self.splits + 1)

    def level_of(self, times):
        """The level of the paper with an index alone."""
        bounds = [bound + times * gain for bound, gain in zip(self.bounds, self.gains)]
        return Level(self.columns, bounds, [0] * len(bounds), self.splits)

    def is_paired(self, at):
        """Whether the opposite of a test is there in each of the papers, as both change alike or not at all."""
        if at not in self.paired:
            others = [other for other in self.opposites(at, 0) if self.gains[other] == -self.gains[at]]
            self.paired[at] = len(others) > 0
        return self.paired[at]

    def opposites(self, at, times):
        """The indexes of the tests that are the opposite of a test, as the paper with an index has them."""
        bounds = self.level_of(times).bounds if times > 0 else self.bounds
        found = [other for other, bound in enumerate(bounds) if bound == -bounds[at]]
        for column in self.columns:
            found = [other for other in found if column[other] == -column[at]]
        return found


def shows_none(tests, value):
    """Whether any value is a Sum, a Split or an Odd that is right for the tests."""
    need_tests(tests)
    return is_paper(rows_of(tests), value)


def is_paper(rows, value):
    """Whether any value is a Sum, a Split or an Odd that is right for pairs of parts and bound."""
    columns = [[parts[at] for parts, _ in rows] for at in range(len(rows[0][0]))]
    waiting = [(value, Level(columns, [bound for _, bound in rows], [0] * len(rows), 0))]
    seen = 1
    while waiting:
        paper, level = waiting.pop()
        if not isinstance(paper, Split):
            if not is_end(paper, level, 0, 0):
                return False
            continue
        if not is_split(paper, level):
            return False
        seen += len(paper.papers)
        inner = level.level_inside(paper.at)
        if seen > MOST_PAPERS or not ends_are_right(paper.papers, inner):
            return False
        for at, below in enumerate(paper.papers):
            if isinstance(below, Split):
                waiting.append((below, inner.level_of(at)))
    return True


def ends_are_right(papers, level):
    """Whether all papers of a split are papers, not too deep, and those of them right that are no splits."""
    if not all([isinstance(paper, Answer) for paper in papers]) or (len(papers) > 0 and level.splits > MOST_DEPTH):
        return False
    # One and the same paper often stands for many amounts in a row: it is looked at once.
    starts = [at for at in range(len(papers)) if at == 0 or not papers[at].is_just(papers[at - 1])]
    for start, end in zip(starts, [*starts[1:], len(papers)]):
        if not isinstance(papers[start], Split) and not is_end(papers[start], level, start, end - 1):
            return False
    return True


def is_end(paper, level, first, last):
    """Whether a paper without others in it is right as each of the papers from the index first to last."""
    if isinstance(paper, Sum):
        return is_sum(paper.weights, level, first, last)
    return isinstance(paper, Odd) and is_odd(paper, level, first, last)


def used_weights(weights, level):
    """The pairs of index and weight of all weights but 0; None for what is no tuple with an integer for each test."""
    if not isinstance(weights, tuple) or len(weights) != len(level.bounds):
        return None
    if not all([isinstance(weight, int) and not isinstance(weight, bool) for weight in weights]):
        return None
    return [(at, weight) for at, weight in enumerate(weights) if weight != 0]


def added(used, numbers):
    """The weighted numbers, added."""
    return sum([weight * numbers[at] for at, weight in used])


def add_up_to_nothing(used, level):
    """Whether weights are from 0 on, and the weighted parts add up to 0 for each unknown."""
    if used is None or any([weight < 0 for _, weight in used]):
        return False
    return all([added(used, column) == 0 for column in level.columns])


def is_sum(weights, level, first, last):
    """Whether these weights make a sum for each of the papers from first to last."""
    used = used_weights(weights, level)
    if not add_up_to_nothing(used, level):
        return False
    own, gain = added(used, level.bounds), added(used, level.gains)
    return own + first * gain >= 1 and own + last * gain >= 1


def is_split(paper, level):
    """Whether a split has a test, weights for it, and as many papers as this test has amounts."""
    if not is_within(paper.at, 0, len(level.bounds) - 1) or not isinstance(paper.papers, tuple):
        return False
    used = used_weights(paper.weights, level)
    if not add_up_to_nothing(used, level) or paper.weights[paper.at] < 1:
        return False
    amounts = -added(used, level.bounds) // paper.weights[paper.at] + 1
    return len(paper.papers) == max(0, amounts)


def is_odd(paper, level, first, last):
    """Whether an odd sum is right as each of the papers from first to last."""
    divisor, used = paper.divisor, used_weights(paper.weights, level)
    if not is_integer(divisor) or divisor < 2 or used is None:
        return False
    if any([added(used, column) % divisor != 0 for column in level.columns]):
        return False
    own, gain = added(used, level.bounds), added(used, level.gains)
    if any([(own + times * gain) % divisor == 0 for times in range(first, last + 1)]):
        return False
    alone = [at for at, _ in used if not level.is_paired(at)]
    return all([len(level.opposites(at, times)) > 0 for at in alone for times in range(first, last + 1)])
