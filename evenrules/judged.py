"""Rules by weights, judged for all fair trees and all rows of deeds."""

from evenrules.cases import DEEDS, case_rows, cases, is_deed, tests_of
from evenrules.checks import is_within
from evenrules.errors import BadDeeds, BadNumber
from evenrules.grips import Grip, heavy_ends
from evenrules.keeping import kept
from evenrules.papers import Verdict
from evenrules.rules import need_rule
from evenrules.settled import Point, Sum, settled, top_of_rows

MOST_ASKED = 10 ** 12
# So far weights are gone through ahead of all papers.
SOON = 3
# No rule breaks first at a greater weight: all of them, 104,958, were gone through.
MOST_FIRST = 78


class From:
    """From this weight of the lighter side on a paper shows that a case has no whole numbers; below it has none."""

    def __init__(self, weight, paper):
        self.weight = kept(weight)
        self.paper = kept(paper)

    def __eq__(self, other):
        return isinstance(other, From) and self.weight == other.weight and self.paper == other.paper


class Right(Verdict):
    """The rule never breaks; a From for each case shows it."""

    def __init__(self, papers):
        self.papers = kept(papers)

    def __eq__(self, other):
        return isinstance(other, Right) and self.papers == other.papers

    def __bool__(self):
        return True


class Wrong(Verdict):
    """The rule breaks by a deed, by the case with these breaks, at these numbers."""

    def __init__(self, deed, once, twice, numbers):
        self.deed = kept(deed)
        self.once = kept(once)
        self.twice = kept(twice)
        self.numbers = kept(numbers)

    def __eq__(self, other):
        return (isinstance(other, Wrong) and self.deed == other.deed and self.once == other.once
                and self.twice == other.twice and self.numbers == other.numbers)

    def __bool__(self):
        return False


def judge(rule, deeds="both"):
    """Right, if no such deed ever spoils a fair tree or is stuck; otherwise Wrong with the least numbers."""
    need_rule(rule)
    asked = asked_deeds(deeds)
    # Most wrong rules break at small weights. So those that do are told without any paper.
    wrong = wrong_from(rule, asked, 1, SOON)
    if wrong is not None:
        return wrong
    papers = papers_from(rule, asked)
    # Where each case has a paper from some weight on, all breaks are below the greatest of these weights.
    end = MOST_FIRST if papers is None else max([int(paper.weight) for paper in papers]) - 1
    wrong = wrong_from(rule, asked, SOON + 1, end)
    return wrong if wrong is not None else Right(tuple(papers))


def asked_deeds(deeds):
    """The deeds that a word stands for, in order; raises BadDeeds for what is no such word."""
    if is_deed(deeds):
        return (deeds,)
    if deeds != "both":
        raise BadDeeds(deeds)
    return DEEDS


def papers_from(rule, asked):
    """The list of the From of each case; None if some case has whole numbers at any weight."""
    papers = []
    for deed in asked:
        for case in cases(rule, deed):
            told = paper_from(rule, case)
            if told is None:
                return None
            papers.append(told)
    return papers


def paper_from(rule, case):
    """The From of a case, but that its tests may have whole numbers with lesser weights; None if it has none."""
    rows = case_rows(rule, case)
    top = top_of_rows(rows, 0, len(rows[0][0]))
    if isinstance(top, Sum):
        return From(1, Sum((*top.weights, 0)))
    if top is not None:
        return From(top.high // top.low + 1, Sum((*top.weights, top.low)))
    # Fractions keep the tests at any weight. If whole numbers do not, a paper tells so for all weights at once.
    tests = tests_of(rule, case)
    answer = settled((*tests, tests[0]))
    return None if isinstance(answer, Point) else From(1, answer)


def wrong_from(rule, asked, start, end):
    """The Wrong with the least weights, a from start to end; None without any."""
    for light in range(start, end + 1):
        least, most = heavy_ends(rule, asked[-1], light)
        for heavy in range(least, most + 1):
            found = Grip(rule, light, heavy).first_break()
            if found is not None:
                once, twice, numbers = found
                # Of both deeds the put comes first; it adds one key to a heavier side that was fair.
                return Wrong(asked[0] if heavy == least else asked[-1], once, twice, numbers)
    return None


def breaks(rule, deed, light, heavy):
    """The Wrong of a deed with these weights of the sides; None if the rule does not break there."""
    need_rule(rule)
    if not is_deed(deed):
        raise BadDeeds(deed)
    for weight in (light, heavy):
        if not is_within(weight, 1, MOST_ASKED):
            raise BadNumber(weight)
    least, most = heavy_ends(rule, deed, light)
    found = Grip(rule, light, heavy).first_break() if least <= heavy <= most else None
    if found is None:
        return None
    once, twice, numbers = found
    return Wrong(deed, once, twice, numbers)
