"""Rules by weights, judged for all fair trees and all rows of deeds."""

from evenrules.cases import DEEDS, cases, is_deed, tests_of
from evenrules.checks import is_within
from evenrules.errors import BadDeeds, BadNumber
from evenrules.grips import Grip, heavy_ends
from evenrules.keeping import kept
from evenrules.papers import Verdict
from evenrules.rules import need_rule
from evenrules.settled import Point, Sum, settled, top_of

MOST_ASKED = 10 ** 12


class From:
    """From this weight of the lighter side on a paper shows that a case has no whole numbers; below it has none."""

    def __init__(self, weight, paper):
        self.weight = kept(weight)
        self.paper = kept(paper)

    def __eq__(self, other):
        return isinstance(other, From) and self.weight == other.weight and self.paper == other.paper


class Right(Verdict):
    """The rule never breaks; a From for each case shows it."""

    def __init__(self, papers):
        self.papers = kept(papers)

    def __eq__(self, other):
        return isinstance(other, Right) and self.papers == other.papers

    def __bool__(self):
        return True


class Wrong(Verdict):
    """The rule breaks by a deed, by the case with these breaks, at these numbers."""

    def __init__(self, deed, once, twice, numbers):
        self.deed = kept(deed)
        self.once = kept(once)
        self.twice = kept(twice)
        self.numbers = kept(numbers)

    def __eq__(self, other):
        return (isinstance(other, Wrong) and self.deed == other.deed and self.once == other.once
                and self.twice == other.twice and self.numbers == other.numbers)

    def __bool__(self):
        return False


def judge(rule, deeds="both"):
    """Right, if no such deed ever spoils a fair tree or is stuck; otherwise Wrong with the least numbers."""
    need_rule(rule)
    if not is_deed(deeds) and deeds != "both":
        raise BadDeeds(deeds)
    asked = DEEDS if deeds == "both" else (deeds,)
    papers, loose = [], []
    end, breaks_later = 1, False
    for deed in asked:
        for case in cases(rule, deed):
            told = paper_from(rule, case)
            papers.append(told)
            if told is None or told.weight > 1:
                loose.append(Grip(rule, case))
            if told is None:
                breaks_later = True
            elif told.weight > end:
                end = told.weight
    light = 1
    # This is soon over: no rule breaks first at a weight above 78, and no right one needs a paper from above 15.
    while light < end or breaks_later:
        wrong = wrong_at(rule, loose, light)
        if wrong is not None:
            return wrong
        light += 1
    return Right(tuple(papers))


def paper_from(rule, case):
    """The From of a case, but that its tests may have whole numbers with lesser weights; None if it has none."""
    tests = tests_of(rule, case)
    top = top_of(tests, 0)
    if isinstance(top, Sum):
        return From(1, Sum((*top.weights, 0)))
    if top is not None:
        return From(top.high // top.low + 1, Sum((*top.weights, top.low)))
    # Fractions keep the tests at any weight. If whole numbers do not, a paper tells so for all weights at once.
    answer = settled((*tests, tests[0]))
    return None if isinstance(answer, Point) else From(1, answer)


def wrong_at(rule, grips, light):
    """The Wrong with this weight of the lighter side, the least weight of the other one, and the first of the grips."""
    heavy, most = heavy_ends(rule, "take", light)
    while heavy <= most:
        for grip in grips:
            numbers = grip.numbers_at(light, heavy)
            if numbers is not None:
                return Wrong(grip.case.deed, grip.case.once, grip.case.twice, numbers)
        heavy += 1
    return None


def breaks(rule, deed, light, heavy):
    """The Wrong of a deed with these weights of the sides; None if the rule does not break there."""
    need_rule(rule)
    if not is_deed(deed):
        raise BadDeeds(deed)
    for weight in (light, heavy):
        if not is_within(weight, 1, MOST_ASKED):
            raise BadNumber(weight)
    least, most = heavy_ends(rule, deed, light)
    if not least <= heavy <= most:
        return None
    for case in cases(rule, deed):
        numbers = Grip(rule, case).numbers_at(light, heavy)
        if numbers is not None:
            return Wrong(deed, case.once, case.twice, numbers)
    return None
