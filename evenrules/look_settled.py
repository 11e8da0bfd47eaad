"""The looker for papers that no whole numbers keep all tests of a list; it adds and compares."""

from evenrules.checks import is_integer, is_within
from evenrules.papers import MOST_PAPERS
from evenrules.settled import Odd, Split, Sum
from evenrules.straight import need_tests, opposite, rows_of

MOST_DEPTH = 20


def shows_none(tests, value):
    """Whether any value is a Sum, a Split or an Odd that is right for the tests."""
    need_tests(tests)
    waiting = [(value, rows_of(tests), 0)]
    seen = 0
    while waiting:
        paper, rows, depth = waiting.pop()
        seen += 1
        if depth > MOST_DEPTH or not is_right(paper, rows):
            return False
        if isinstance(paper, Split):
            if seen + len(waiting) + len(paper.papers) > MOST_PAPERS:
                return False
            waiting.extend(inner_papers(paper, rows, depth + 1))
    return True


def is_right(paper, rows):
    """Whether a paper is right for rows, pairs of parts and bound, but for the papers in it."""
    if isinstance(paper, Sum):
        return are_weights(paper.weights, rows) and none_below(paper.weights) and is_sum(paper.weights, rows)
    if isinstance(paper, Split):
        return are_weights(paper.weights, rows) and none_below(paper.weights) and is_split(paper, rows)
    if isinstance(paper, Odd):
        return are_weights(paper.weights, rows) and is_odd(paper.weights, paper.divisor, rows)
    return False


def are_weights(weights, rows):
    """Whether a value is a tuple with an integer for each row."""
    return isinstance(weights, tuple) and len(weights) == len(rows) and all([is_integer(item) for item in weights])


def none_below(weights):
    """Whether all weights are from 0 on."""
    return all([weight >= 0 for weight in weights])


def added_parts(weights, rows):
    """The weighted parts, added for each unknown."""
    many = len(rows[0][0])
    return [sum([weight * row[0][at] for weight, row in zip(weights, rows)]) for at in range(many)]


def added_bounds(weights, rows):
    """The weighted bounds, added."""
    return sum([weight * row[1] for weight, row in zip(weights, rows)])


def are_nothing(amounts):
    """Whether all amounts are 0."""
    return all([amount == 0 for amount in amounts])


def is_sum(weights, rows):
    """Whether these weights make a sum."""
    return are_nothing(added_parts(weights, rows)) and added_bounds(weights, rows) >= 1


def is_split(paper, rows):
    """Whether a split has a test, weights for it, and as many papers as this test has amounts."""
    if not is_within(paper.at, 0, len(rows) - 1) or not isinstance(paper.papers, tuple):
        return False
    weight = paper.weights[paper.at]
    if weight < 1 or not are_nothing(added_parts(paper.weights, rows)):
        return False
    amounts = -added_bounds(paper.weights, rows) // weight + 1
    return len(paper.papers) == max(0, amounts)


def is_odd(weights, divisor, rows):
    """Whether these weights and a divisor make an odd sum."""
    if not is_integer(divisor) or divisor < 2:
        return False
    for weight, row in zip(weights, rows):
        if weight != 0 and opposite(row) not in rows:
            return False
    if not are_nothing([amount % divisor for amount in added_parts(weights, rows)]):
        return False
    return added_bounds(weights, rows) % divisor != 0


def inner_papers(paper, rows, depth):
    """The papers of a split, each with its rows and how deep it stands."""
    parts, bound = rows[paper.at]
    inner = []
    for at, below in enumerate(paper.papers):
        equal = (parts, bound + at)
        inner.append((below, [*rows, equal, opposite(equal)], depth))
    return inner
