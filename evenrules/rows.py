"""Rows of pages by their numbers of entries. A row never changes: a deed gives another one."""

from evenrules.checks import is_within
from evenrules.dealing import behind_put, behind_take, is_kept, page_at
from evenrules.errors import BadNumber, BadOther, BadPages, TooMany
from evenrules.fills import need_fill_rule, need_page_size

MOST_PAGES = 2000
MOST_FILL = 10 ** 15


class Row:
    """A row of pages under a fill rule; most is what a page holds, fills are the numbers of entries of the pages."""

    def __init__(self, rule, most, fills=()):
        need_fill_rule(rule)
        need_page_size(rule, most)
        if not isinstance(fills, (list, tuple)):
            raise BadOther("fills")
        if len(fills) > MOST_PAGES:
            raise TooMany("pages", MOST_PAGES)
        for at, fill in enumerate(fills):
            if not is_within(fill, 1, MOST_FILL):
                raise BadPages(at)
        self.fill_rule = rule
        self.most = most
        self.fills = tuple(fills)

    def __len__(self):
        return len(self.fills)

    def __iter__(self):
        return iter(self.fills)

    @property
    def total(self):
        """How many entries the row has."""
        return sum(self.fills)

    @property
    def is_young(self):
        """Whether the row has no more pages than the rule is wide."""
        return len(self.fills) <= self.fill_rule.width

    @property
    def keeps(self):
        """Whether the row keeps the rule."""
        return is_kept(self.fill_rule, self.most, self.fills)

    def page_of(self, index):
        """The index of the page that has the entry of an index."""
        need_up_to(index, self.total - 1)
        return page_at(self.fills, index)

    def put(self, ahead):
        """A pair: the row behind a put with so many entries ahead, and the deed that this is for a row above."""
        need_up_to(ahead, self.total)
        fills, deed = behind_put(self.fill_rule, self.most, self.fills, ahead)
        return Row(self.fill_rule, self.most, fills), deed

    def take(self, index):
        """As put, behind a take of the entry of an index."""
        need_up_to(index, self.total - 1)
        fills, deed = behind_take(self.fill_rule, self.most, self.fills, index)
        return Row(self.fill_rule, self.most, fills), deed

    def __eq__(self, other):
        return (isinstance(other, Row) and self.fill_rule == other.fill_rule and self.most == other.most
                and self.fills == other.fills)


def need_up_to(value, most):
    """Raises BadNumber for what is no integer from 0 to most."""
    if not is_within(value, 0, most):
        raise BadNumber(value)
