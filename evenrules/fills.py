"""Fill rules: when pages are cut and joined, and for which sizes of pages this keeps all of them full enough."""

from evenrules.checks import is_within
from evenrules.dealing import behind_put, behind_take, crucial_of, fewest_pages, is_right_for, least_of
from evenrules.errors import BadNumber, BadRule, BadText, Nothing
from evenrules.keeping import kept
from evenrules.papers import Verdict
from evenrules.rules import Rule, is_pair, word_value
from evenrules.words import pair_word

MOST_TIMES = 12
LEAST_SIZE = 2
MOST_SIZE = 10 ** 12
MOST_ENTRIES = 10 ** 60
# What a fill rule is made of, in order, which is that of the words behind the first one, too; and the bounds.
PARTS = ("times", "plus", "cut_of", "join_of")
BOUNDS = {"plus": (-12, 12), "cut_of": (1, 5), "join_of": (2, 6)}


class FillRule(Rule):
    """The rule that pages hold (p * M + k) // q entries at least, where so many are cut and so many are joined."""

    def __init__(self, times, plus=0, *, cut_of=1, join_of=2):
        for part, value in zip(PARTS, (times, plus, cut_of, join_of)):
            if not can_be(part, value):
                raise BadRule(part)
        self.times = times
        self.plus = plus
        self.cut_of = cut_of
        self.join_of = join_of
        self.width = cut_of if cut_of > join_of else join_of

    def least_fill(self, most):
        """The least fill of pages that hold at most so many entries."""
        need_size(most)
        return least_of(self, most)

    def fits(self, most):
        """Whether the rule is right for pages that hold at most so many entries."""
        need_size(most)
        return is_right_for(self, most)

    def __eq__(self, other):
        return (isinstance(other, FillRule) and self.times == other.times and self.plus == other.plus
                and self.cut_of == other.cut_of and self.join_of == other.join_of)

    def __str__(self):
        return f"fill {pair_word(self.times)} {self.plus} {self.cut_of} {self.join_of}"

    @staticmethod
    def read(text):
        """The fill rule that has this text."""
        if not isinstance(text, str):
            raise BadText(0, 0)
        words = text.split(" ")
        wrong = wrong_fill_word(words)
        if wrong is not None:
            raise BadText(0, wrong)
        times, plus, cut_of, join_of = [word_value(word) for word in words[1:]]
        return FillRule(times, plus, cut_of=cut_of, join_of=join_of)


class Fits(Verdict):
    """A rule is right for all sizes from this one on, and wrong for just these below it."""

    def __init__(self, size, wrong):
        self.size = kept(size)
        self.wrong = kept(wrong)

    def __eq__(self, other):
        return isinstance(other, Fits) and self.size == other.size and self.wrong == other.wrong

    def __bool__(self):
        return True


class Spills(Verdict):
    """A rule is wrong for a size, and for all that are more by a multiple of the step."""

    def __init__(self, size, step):
        self.size = kept(size)
        self.step = kept(step)

    def __eq__(self, other):
        return isinstance(other, Spills) and self.size == other.size and self.step == other.step

    def __bool__(self):
        return False


class Spill:
    """A row that keeps a wrong rule, a deed at its beginning, and the row behind it, which does not."""

    def __init__(self, most, fills, deed, behind):
        self.most = kept(most)
        self.fills = kept(fills)
        self.deed = kept(deed)
        self.behind = kept(behind)

    def __eq__(self, other):
        return (isinstance(other, Spill) and self.most == other.most and self.fills == other.fills
                and self.deed == other.deed and self.behind == other.behind)


def can_be(part, value):
    """Whether a value can be this part of a fill rule."""
    if part == "times":
        return is_pair(value, MOST_TIMES)
    low, high = BOUNDS[part]
    return is_within(value, low, high)


def wrong_fill_word(words):
    """The index of the first word that cannot stand in the text of a fill rule, or lacks; None if it is one's text."""
    if words[:1] != ["fill"]:
        return 0
    for at, part in enumerate(PARTS, start=1):
        if at == len(words) or not can_be(part, word_value(words[at])):
            return at
    return len(PARTS) + 1 if len(words) > len(PARTS) + 1 else None


def need_fill_rule(value):
    """Raises BadRule for what is no fill rule."""
    if not isinstance(value, FillRule):
        raise BadRule("rule")


def need_size(value):
    """Raises BadNumber for what is no integer from 2 to 10 ** 12."""
    if not is_within(value, LEAST_SIZE, MOST_SIZE):
        raise BadNumber(value)


def need_page_size(rule, most):
    """Raises BadNumber for what is no size, or one whose least fill no page can have."""
    need_size(most)
    if not 1 <= least_of(rule, most) <= most:
        raise BadNumber(most)


def right_span(rule, size):
    """For which times the rule is right for a size and so many steps more: the first, and the last, None without end.

    The least fill grows by p with each step, so that the tests of a rule for a size are straight ones of the times.
    """
    over, under = rule.times
    least, many = least_of(rule, size), crucial_of(rule)
    first = -((least - 1) // over) if least < 1 else 0
    slack = (many - 1) * size + 1 - many * least
    fall = many * over - (many - 1) * under
    if fall > 0:
        return first, slack // fall
    if slack >= 0:
        return first, None
    if fall == 0:
        return first, -1
    later = -(slack // -fall)
    return later if later > first else first, None


def right_spans(rule):
    """The spans of the first size of each remainder by the step: triples of the size and what right_span tells."""
    found = []
    for size in range(LEAST_SIZE, LEAST_SIZE + rule.times[1]):
        first, last = right_span(rule, size)
        found.append((size, first, last))
    return found


def judge_fill(rule):
    """Fits, if the rule is right for all sizes from some one on, otherwise Spills."""
    need_fill_rule(rule)
    step = rule.times[1]
    spans = right_spans(rule)
    # A size of a remainder that is right for a while is wrong behind it, one that is never right from the beginning.
    spilt = [size + step * (last + 1 if last >= first else 0) for size, first, last in spans if last is not None]
    if len(spilt) > 0:
        return Spills(min([int(size) for size in spilt]), step)
    wrong = sorted([int(size + step * times) for size, first, _ in spans for times in range(first)])
    return Fits(wrong[-1] + 1 if len(wrong) > 0 else LEAST_SIZE, tuple(wrong))


def right_sizes(rule, low, high):
    """The sizes from low to high for which a rule is right, ascending."""
    need_fill_rule(rule)
    need_size(low)
    need_size(high)
    for size in range(low, last_right_size(rule, high) + 1):
        if is_right_for(rule, size):
            yield size


def last_right_size(rule, high):
    """The greatest size up to high for which the rule can be right; below all sizes if there is none."""
    end = 0
    for size, first, last in right_spans(rule):
        if last is None:
            return high
        if last >= first and size + rule.times[1] * last > end:
            end = size + rule.times[1] * last
    return end if end < high else high


def spill_of(rule, most):
    """A row that keeps a rule which is wrong for this size, and a deed that spoils it."""
    need_fill_rule(rule)
    need_page_size(rule, most)
    if is_right_for(rule, most):
        raise Nothing()
    if rule.cut_of + 1 <= rule.join_of:
        fills = [most] * (rule.width + 1)
        return Spill(most, tuple(fills), "put", tuple(behind_put(rule, most, fills, 0)[0]))
    fills = [least_of(rule, most)] * (rule.width + 2)
    return Spill(most, tuple(fills), "take", tuple(behind_take(rule, most, fills, 0)[0]))


def need_entries(rule, most, many):
    """Raises the errors of a rule, a size of pages and a number of entries."""
    need_fill_rule(rule)
    need_page_size(rule, most)
    if not is_within(many, 0, MOST_ENTRIES):
        raise BadNumber(many)


def pages_for(rule, most, many):
    """The fewest and the most pages that can hold so many entries; None if no number of pages can."""
    need_entries(rule, most, many)
    fewest, greatest = fewest_pages(most, many), many // least_of(rule, most)
    return (fewest, greatest) if fewest <= greatest else None


def levels_for(rule, most, many):
    """How many rows a shelf of so many keys has with the fewest pages, and at most if its rows keep the rule."""
    need_entries(rule, most, many)
    if many == 0:
        return (0, 0)
    rows, left = 1, fewest_pages(most, many)
    while left > 1:
        rows += 1
        left = fewest_pages(most, left)
    return (rows, most_levels(rule, most, many))


def most_levels(rule, most, many):
    """The bound for the rows of a shelf of so many keys; None if there is none."""
    least = least_of(rule, most)
    young = least if least < (most + 1) // 2 else (most + 1) // 2
    if young == 1:
        return None
    steps = 0
    # Below 1 it ends, too: that is where the bound would be told to be 1 at least.
    while many > 1:
        steps += 1
        if many // least > rule.width:
            many = many // least
        else:
            many = many // young if many // young < rule.width else rule.width
    return max(1, steps)
