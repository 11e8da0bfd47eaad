"""Whether every tree that is fair by one rule is fair by another one."""

from evenrules.errors import BadRule
from evenrules.keeping import kept
from evenrules.papers import Verdict
from evenrules.rules import WeightRule
from evenrules.settled import Point, settled
from evenrules.straight import Test


class Within(Verdict):
    """All trees are; the paper shows that the tests of `tests_within` have no whole numbers."""

    def __init__(self, paper):
        self.paper = kept(paper)

    def __eq__(self, other):
        return isinstance(other, Within) and self.paper == other.paper

    def __bool__(self):
        return True


class Parted(Verdict):
    """Not all are: these weights are fair by the first rule alone."""

    def __init__(self, light, heavy):
        self.light = kept(light)
        self.heavy = kept(heavy)

    def __eq__(self, other):
        return isinstance(other, Parted) and self.light == other.light and self.heavy == other.heavy

    def __bool__(self):
        return False


def within(one, other):
    """Within if every tree that is fair by one is fair by other, otherwise Parted with the least weights."""
    answer = settled(tests_within(one, other))
    if not isinstance(answer, Point):
        return Within(answer)
    light = 1
    while one.greatest(light) <= other.greatest(light):
        light += 1
    return Parted(light, other.greatest(light) + 1)


def tests_within(one, other):
    """The tests of weights x and y that are fair by one, y above all that are fair beside x by other."""
    need_rules(one, other)
    over, under = one.times
    wide, narrow = other.times
    return (Test((1, 0), 1), Test((over, -under), -one.plus), Test((-wide, narrow), other.plus + 1))


def same_trees(one, other):
    """Whether the same trees are fair by both rules."""
    need_rules(one, other)
    return bool(within(one, other)) and bool(within(other, one))


def need_rules(one, other):
    """Raises BadRule for what is no rule by weights."""
    if not isinstance(one, WeightRule):
        raise BadRule("one")
    if not isinstance(other, WeightRule):
        raise BadRule("other")
