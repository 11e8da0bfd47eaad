"""The looker for verdicts of `judge`."""

from evenrules.cases import Case, case_rows, cases, is_case, numbers_break
from evenrules.checks import is_within
from evenrules.judged import MOST_FIRST, From, Right, Wrong, asked_deeds, wrong_from
from evenrules.look_settled import is_paper
from evenrules.rules import need_rule

MOST_FROM = 20000


def shows_judged(rule, deeds, value):
    """Whether any value is a right verdict of a rule for deeds."""
    need_rule(rule)
    asked = asked_deeds(deeds)
    if isinstance(value, Wrong):
        case = Case(value.deed, value.once, value.twice)
        return value.deed in asked and is_case(rule, case) and numbers_break(rule, case, value.numbers)
    return isinstance(value, Right) and shows_right(rule, asked, value.papers)


def shows_right(rule, asked, papers):
    """Whether a value is the tuple of a right From for each case, and the rule breaks at no weight below theirs."""
    told = [case for deed in asked for case in cases(rule, deed)]
    if not isinstance(papers, tuple) or len(papers) != len(told):
        return False
    end = 1
    for case, paper in zip(told, papers):
        if not isinstance(paper, From) or not is_within(paper.weight, 1, MOST_FROM):
            return False
        if not is_paper(rows_from(rule, case, paper.weight), paper.paper):
            return False
        if paper.weight > end:
            end = paper.weight
    # Where a rule breaks at all, it does so at one of the first weights.
    return wrong_from(rule, asked, 1, end - 1 if end <= MOST_FIRST else MOST_FIRST) is None


def rows_from(rule, case, weight):
    """The pairs of parts and bound of a case, and behind them that the lighter side weighs at least so much."""
    rows = case_rows(rule, case)
    rows.append((tuple([1] + [0] * (len(rows[0][0]) - 1)), weight))
    return rows
