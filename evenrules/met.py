"""Whether a turn rule ever asks for one turn, or for two, in a fair tree."""

from evenrules.cases import ONCE, STUCK, Case, is_deed, tests_of
from evenrules.checks import is_integer
from evenrules.errors import BadDeeds, BadNumber, BadRule
from evenrules.grips import heavy_ends, turn_ends
from evenrules.keeping import kept
from evenrules.look_settled import shows_none
from evenrules.papers import Verdict
from evenrules.rules import TurnRule
from evenrules.settled import Point, settled
from evenrules.straight import is_list_of_integers

# So far weights are gone through ahead of all papers.
SOON = 3
# No rule first asks for a turn at a greater weight: all of them were gone through.
MOST_FIRST = 56


class Met(Verdict):
    """The least weights behind a deed at which so many turns are asked for."""

    def __init__(self, light, inner, outer):
        self.light = kept(light)
        self.inner = kept(inner)
        self.outer = kept(outer)

    def __eq__(self, other):
        return (isinstance(other, Met) and self.light == other.light and self.inner == other.inner
                and self.outer == other.outer)

    def __bool__(self):
        return True


class Never(Verdict):
    """So many turns are never asked for; the paper shows that the tests of `tests_met` have no whole numbers."""

    def __init__(self, paper):
        self.paper = kept(paper)

    def __eq__(self, other):
        return isinstance(other, Never) and self.paper == other.paper

    def __bool__(self):
        return False


def met(rule, deed, turns):
    """Met with the least weights behind a deed at which a rule asks for so many turns, otherwise Never."""
    need_asked(rule, deed, turns)
    # Most rules ask for them at small weights. So these are told without asking for a paper.
    found = met_from(rule, deed, turns, 1, SOON)
    if found is None:
        answer = settled(tests_met(rule, deed, turns))
        if not isinstance(answer, Point):
            return Never(answer)
        found = met_from(rule, deed, turns, SOON + 1, MOST_FIRST)
    return found


def met_from(rule, deed, turns, start, end):
    """The Met with the least weights, a from start to end; None without any."""
    for light in range(start, end + 1):
        least, most = heavy_ends(rule, deed, light)
        for heavy in range(least, most + 1):
            low, high = turn_ends(rule, heavy, turns)
            if low <= high:
                return Met(light, low, heavy - low)
    return None


def tests_met(rule, deed, turns):
    """The tests of the weights a, c and d at which a deed leads to so many turns."""
    need_asked(rule, deed, turns)
    case = Case(deed, ONCE[0], None) if turns == 1 else Case(deed, None, STUCK)
    # The last test of a case tells its break; those ahead of it are the same for all cases in a, c and d.
    return tests_of(rule, case)[:-1]


def need_asked(rule, deed, turns):
    """Raises the errors of a turn rule, a deed and a number of turns."""
    if not isinstance(rule, TurnRule):
        raise BadRule("rule")
    if not is_deed(deed):
        raise BadDeeds(deed)
    if not is_integer(turns) or turns not in (1, 2):
        raise BadNumber(turns)


def shows_met(rule, deed, turns, value):
    """Whether any value is a Met of weights that lead to so many turns, or a Never with a right paper."""
    tests = tests_met(rule, deed, turns)
    if isinstance(value, Never):
        return shows_none(tests, value.paper)
    if not isinstance(value, Met):
        return False
    numbers = (value.light, value.inner, value.outer)
    return is_list_of_integers(numbers) and all([test(numbers) for test in tests])
