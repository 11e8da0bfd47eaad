"""Rules by weights: how much heavier a side of a tree may be, and which way a node is turned that is not fair."""

from evenrules.checks import is_within
from evenrules.errors import BadNumber, BadRule, BadText, NoHalves
from evenrules.words import pair_word, read_number, read_pair

MOST_PLUS = 6
MOST_TURN = 8
MOST_WEIGHT = 10 ** 60
# The kinds of the words behind the first one.
WORDS = {"turn": ("times", "plus", "turn", "plus"), "try": ("times", "plus")}


class Rule:
    """The base of all rules."""


class WeightRule(Rule):
    """The base of the rules by weights; classes below set `times`, the pair (p, q), and `plus`, k."""

    MOST = 6

    def __call__(self, x, y):
        need_weight(x)
        need_weight(y)
        return are_fair(self, x, y)

    def greatest(self, x):
        """The greatest weight that is fair beside x."""
        need_weight(x)
        return greatest_beside(self, x)

    def least(self, y):
        """The least weight that is fair beside y."""
        need_weight(y)
        return least_beside(self, y)

    @staticmethod
    def read(text):
        """The rule of either kind that has this text."""
        if not isinstance(text, str):
            raise BadText(0, 0)
        words = text.split(" ")
        wrong = wrong_rule_word(words)
        if wrong is not None:
            raise BadText(0, wrong)
        numbers = [word_value(word) for word in words[1:]]
        if words[0] == "try":
            return TryRule(numbers[0], numbers[1])
        return TurnRule(numbers[0], numbers[1], turn=numbers[2], turn_plus=numbers[3])


class TurnRule(WeightRule):
    """The rule that turns a node once if s * c <= t * d + r, otherwise twice; turn is the pair (t, s), turn_plus r."""

    def __init__(self, times, plus=0, *, turn, turn_plus=0):
        need_times(times, plus)
        if not is_turn(turn):
            raise BadRule("turn")
        if not is_plus(turn_plus):
            raise BadRule("turn_plus")
        need_halves(times, plus)
        self.times = times
        self.plus = plus
        self.turn = turn
        self.turn_plus = turn_plus

    def turns(self, light, inner, outer, near):
        """How often a node is turned; 0 if its deed is stuck."""
        over, under = self.turn
        if under * inner <= over * outer + self.turn_plus:
            return 1
        return 2 if inner > 1 else 0

    def __eq__(self, other):
        return (isinstance(other, TurnRule) and self.times == other.times and self.plus == other.plus
                and self.turn == other.turn and self.turn_plus == other.turn_plus)

    def __str__(self):
        return f"turn {pair_word(self.times)} {self.plus} {pair_word(self.turn)} {self.turn_plus}"


class TryRule(WeightRule):
    """The rule that turns a node once if this makes it fair, or if turning it twice does not."""

    def __init__(self, times, plus=0):
        need_times(times, plus)
        need_halves(times, plus)
        self.times = times
        self.plus = plus

    def turns(self, light, inner, outer, near):
        """How often a node is turned."""
        if are_fair(self, light, inner) and are_fair(self, light + inner, outer):
            return 1
        return 2 if inner > 1 and self.twice_is_fair(light, inner, outer, near) else 1

    def twice_is_fair(self, light, inner, outer, near):
        """Whether all three new nodes are fair if a node is turned twice."""
        far = inner - near
        return (are_fair(self, light, near) and are_fair(self, far, outer)
                and are_fair(self, light + near, far + outer))

    def __eq__(self, other):
        return isinstance(other, TryRule) and self.times == other.times and self.plus == other.plus

    def __str__(self):
        return f"try {pair_word(self.times)} {self.plus}"


def are_fair(rule, x, y):
    """Whether two weights of any size are fair."""
    over, under = rule.times
    return under * y <= over * x + rule.plus and under * x <= over * y + rule.plus


def greatest_beside(rule, x):
    """The greatest weight that is fair beside a weight of any size."""
    over, under = rule.times
    return (over * x + rule.plus) // under


def least_beside(rule, y):
    """The least weight that is fair beside a weight of any size."""
    over, under = rule.times
    return max(1, -((rule.plus - under * y) // over))


def least_part(rule, weight):
    """The least weight that a side of a fair node of this weight can have."""
    over, under = rule.times
    return max(1, -((rule.plus - under * weight) // (over + under)))


def need_rule(value):
    """Raises BadRule for what is no rule by weights."""
    if not isinstance(value, WeightRule):
        raise BadRule("rule")


def need_weight(value):
    """Raises BadNumber for what is no integer from 1 to 10 ** 60."""
    if not is_within(value, 1, MOST_WEIGHT):
        raise BadNumber(value)


def is_pair(value, most):
    """Whether a value is a tuple of two integers from 1 on, not above most."""
    return isinstance(value, tuple) and len(value) == 2 and all([is_within(item, 1, most) for item in value])


def is_times(value):
    """Whether a value can be the times of a rule by weights."""
    return is_pair(value, WeightRule.MOST) and value[1] <= value[0]


def is_plus(value):
    """Whether a value can be the plus of a rule, or of its turn."""
    return is_within(value, -MOST_PLUS, MOST_PLUS)


def is_turn(value):
    """Whether a value can be the turn of a rule."""
    return is_pair(value, MOST_TURN)


def need_times(times, plus):
    """Raises BadRule for what cannot be the times and the plus of a rule."""
    if not is_times(times):
        raise BadRule("times")
    if not is_plus(plus):
        raise BadRule("plus")


def has_halves(times, plus):
    """Whether weights that are the same, or differ by 1, are fair by these numbers."""
    over, under = times
    return over + plus >= 2 * under


def need_halves(times, plus):
    """Raises NoHalves if not even the weights 1 and 1, or not 1 and 2, are fair by these numbers."""
    over, under = times
    if over + plus < under:
        raise NoHalves(2)
    if not has_halves(times, plus):
        raise NoHalves(3)


def wrong_rule_word(words):
    """The index of the first word that cannot stand in the text of a rule, or lacks; None if it is the text of one.

    Where all words can stand, but the rule has no halves, it is that of the times.
    """
    if len(words) == 0 or words[0] not in WORDS:
        return 0
    kinds = WORDS[words[0]]
    for at, kind in enumerate(kinds, start=1):
        if at == len(words) or not can_stand(kind, word_value(words[at])):
            return at
    if len(words) > len(kinds) + 1:
        return len(kinds) + 1
    return None if has_halves(word_value(words[1]), word_value(words[2])) else 1


def word_value(word):
    """The pair or the integer that has this word; None if none has."""
    return read_pair(word) if "/" in word else read_number(word)


def can_stand(kind, value):
    """Whether the value of a word is of this kind."""
    if kind == "times":
        return is_times(value)
    return is_turn(value) if kind == "turn" else is_plus(value)
