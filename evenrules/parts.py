"""Parts: trees cut, joined and compared."""

from evenrules.checks import need_key
from evenrules.errors import BadOther, Overlap, TooMany
from evenrules.reading import Reading
from evenrules.states import MOST_KEYS, first_from


class Parts(Reading):
    """The base of Tree, which tells `like`: the tree of halves of other entries with the same rule."""

    def __floordiv__(self, key):
        need_key(key)
        return self.stretch_of(0, first_from(self._state.order, key))

    def __mod__(self, key):
        need_key(key)
        return self.stretch_of(first_from(self._state.order, key), len(self._state.order))

    def cut(self, low=None, high=None):
        """The tree of the entries with low <= key < high, without a bound where it is None."""
        for bound in (low, high):
            if bound is not None:
                need_key(bound)
        order = self._state.order
        start = 0 if low is None else first_from(order, low)
        return self.stretch_of(start, len(order) if high is None else first_from(order, high))

    def stretch_of(self, start, end):
        """The tree of the entries from one index to ahead of another one."""
        worths = self._state.worths
        return self.like({key: worths[key] for key in self._state.order[start:end]})

    def __add__(self, other):
        need_tree(other)
        mine, its = self._state.order, other._state.order
        if len(mine) > 0 and len(its) > 0 and its[0] <= mine[-1]:
            raise Overlap(its[0])
        return self.like(united(self._state.worths, other._state.worths))

    def __or__(self, other):
        need_tree(other)
        return self.like(united(self._state.worths, other._state.worths))

    def __and__(self, other):
        need_tree(other)
        mine, its = self._state.worths, other._state.worths
        return self.like({key: mine[key] for key in mine if key in its})

    def __sub__(self, other):
        need_tree(other)
        mine, its = self._state.worths, other._state.worths
        return self.like({key: mine[key] for key in mine if key not in its})

    def __le__(self, other):
        need_tree(other)
        its = other._state.worths
        return all([key in its for key in self._state.order])

    def __lt__(self, other):
        return self <= other and len(self._state.order) < len(other._state.order)


def need_tree(value):
    """Raises BadOther for what is no tree."""
    if not isinstance(value, Parts):
        raise BadOther("other")


def united(mine, its):
    """The values of the keys of both, where both have one the second one's."""
    both = {**mine, **its}
    if len(both) > MOST_KEYS:
        raise TooMany("keys", MOST_KEYS)
    return both
