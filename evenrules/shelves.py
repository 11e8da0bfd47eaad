"""Shelves: keys with values in pages, which are cut and joined under a fill rule."""

from evenrules.checks import is_key, need_key, need_pairs
from evenrules.dealing import is_kept, page_at, page_for
from evenrules.errors import BadOther, NoKey, TooMany
from evenrules.fills import need_fill_rule, need_page_size
from evenrules.keeping import are_same
from evenrules.saving import Saved
from evenrules.stacks import Stack, built_stack, entries_in, put_all, put_in, take_out
from evenrules.states import MOST_KEYS, first_from


class Shelf:
    """A shelf under a fill rule; most is what a page holds; items are pairs of a key and a value, put one by one."""

    def __init__(self, rule, most, items=()):
        need_fill_rule(rule)
        need_page_size(rule, most)
        self.fill_rule = rule
        self.most = most
        # The blocks of trials that have begun and not ended.
        self._saved = None
        # A stack that the package has made stands for its shelf.
        if isinstance(items, Stack):
            self._stack = items
        else:
            need_pairs(items)
            self._stack = Stack([], {}, [])
            put_all((rule, most), self._stack, items)

    @staticmethod
    def built(rule, most, items):
        """The shelf whose keys, and the entries of each row above, are dealt to the fewest pages."""
        need_fill_rule(rule)
        need_page_size(rule, most)
        need_pairs(items)
        worths = {}
        for key, worth in items:
            need_key(key)
            worths[key] = worth
        if len(worths) > MOST_KEYS:
            raise TooMany("keys", MOST_KEYS)
        return Shelf(rule, most, built_stack(most, worths))

    def put(self, key, value=None):
        """Puts a key with a value; one that is there gets the value."""
        stack = self._stack.copied()
        put_in((self.fill_rule, self.most), stack, key, value)
        self._stack = stack

    def __setitem__(self, key, value):
        self.put(key, value)

    def drop(self, key):
        """Takes a key out, and returns its value."""
        if key not in self:
            raise NoKey(key)
        value = self._stack.worths[key]
        stack = self._stack.copied()
        take_out((self.fill_rule, self.most), stack, key)
        self._stack = stack
        return value

    def __getitem__(self, key):
        if key not in self:
            raise NoKey(key)
        return self._stack.worths[key]

    def get(self, key, other=None):
        """The value of a key, or other for what is no key of the shelf."""
        return self._stack.worths[key] if key in self else other

    def __contains__(self, key):
        return is_key(key) and key in self._stack.worths

    def __len__(self):
        return len(self._stack.order)

    def __bool__(self):
        return bool(self._stack.order)

    def __iter__(self):
        return iter(self._stack.order)

    def stretch(self, low, high):
        """The pairs of key and value with low <= key < high, keys ascending."""
        need_key(low)
        need_key(high)
        stack = self._stack
        for key in stack.order[first_from(stack.order, low):first_from(stack.order, high)]:
            yield (key, stack.worths[key])

    @property
    def pages(self):
        """The keys of each page."""
        found = []
        at = 0
        for fill in self.bottom():
            found.append(tuple(self._stack.order[at:at + fill]))
            at = at + fill
        return tuple(found)

    @property
    def levels(self):
        """The fills of the rows, from the bottom up."""
        return tuple([tuple(row) for row in self._stack.rows])

    @property
    def keeps(self):
        """Whether all rows keep the rule."""
        return all([is_kept(self.fill_rule, self.most, row) for row in self._stack.rows])

    def bottom(self):
        """The fills of the bottom row."""
        return list(self._stack.rows[0]) if len(self._stack.rows) > 0 else []

    def page_of(self, key):
        """The index of the page that has a key, or would get it; None if there is no page."""
        need_key(key)
        fills = self.bottom()
        if len(fills) == 0:
            return None
        ahead = first_from(self._stack.order, key)
        return page_at(fills, ahead) if key in self else page_for(fills, ahead)

    def __ior__(self, other):
        if not isinstance(other, Shelf):
            raise BadOther("other")
        stack = self._stack.copied()
        put_all((self.fill_rule, self.most), stack, entries_in(other._stack))
        self._stack = stack
        return self

    def twin(self):
        """A shelf with the same rows and items that goes its own way."""
        return Shelf(self.fill_rule, self.most, self._stack)

    def trial(self):
        """The shelf, for `with`: behind the block it is as it was when the block began."""
        return self

    def __enter__(self):
        self._saved = Saved(self._stack, self._saved)
        return self

    def __exit__(self, *told):
        self._stack = self._saved.state
        self._saved = self._saved.before

    def tried(self, work):
        """What work(shelf) returns; the shelf is as it was behind it."""
        with self.trial() as same:
            return work(same)

    def __eq__(self, other):
        return isinstance(other, Shelf) and are_same(self._stack.worths, other._stack.worths)
