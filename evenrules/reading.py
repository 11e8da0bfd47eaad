"""Reading: what can be asked of a tree."""

from evenrules.checks import is_key, is_within, need_key
from evenrules.errors import BadNumber, NoKey, Nothing
from evenrules.keeping import are_same
from evenrules.nodes import form_of, levels_of, words_of
from evenrules.states import first_from


class Reading:
    """The base of trees; classes below set `_state`."""

    def __len__(self):
        return len(self._state.order)

    def __bool__(self):
        return bool(self._state.order)

    def __contains__(self, key):
        return is_key(key) and key in self._state.worths

    def __iter__(self):
        return iter(self._state.order)

    def falling(self):
        """The keys, descending."""
        for key in self._state.order[::-1]:
            yield key

    def __getitem__(self, key):
        if key not in self:
            raise NoKey(key)
        return self._state.worths[key]

    def get(self, key, other=None):
        """The value of a key, or other for what is no key of the tree."""
        return self._state.worths[key] if key in self else other

    def least(self):
        """The least key."""
        return self.end_of(0)

    def greatest(self):
        """The greatest key."""
        return self.end_of(-1)

    def end_of(self, at):
        """The key at an end of the keys."""
        if len(self._state.order) == 0:
            raise Nothing()
        return self._state.order[at]

    def below(self, key):
        """The greatest key less than this one, None if there is none."""
        at = self.place(key)
        return self._state.order[at - 1] if at > 0 else None

    def above(self, key):
        """The least key greater than this one, None if there is none."""
        at = self.place(key) + (1 if key in self else 0)
        return self._state.order[at] if at < len(self._state.order) else None

    def place(self, key):
        """How many keys are less."""
        need_key(key)
        return first_from(self._state.order, key)

    def key_at(self, index):
        """The key with this index, ascending."""
        if not is_within(index, 0, len(self._state.order) - 1):
            raise BadNumber(index)
        return self._state.order[index]

    def between(self, low, high):
        """The pairs of key and value with low <= key < high, keys ascending."""
        need_key(low)
        need_key(high)
        state = self._state
        for key in state.order[first_from(state.order, low):first_from(state.order, high)]:
            yield (key, state.worths[key])

    def depth(self, key):
        """How many keys lie on the way from the root down to a key, itself left out."""
        if key not in self:
            raise NoKey(key)
        node, many = self._state.root, 0
        while node.key != key:
            node = node.left if key < node.key else node.right
            many += 1
        return many

    @property
    def height(self):
        """The number of keys on the longest way down."""
        return levels_of(self._state.root)

    @property
    def layout(self):
        """The empty tuple, or the layout of the left side, the key of the root, the layout of the right side."""
        return form_of(self._state.root)

    def __eq__(self, other):
        return isinstance(other, Reading) and are_same(self._state.worths, other._state.worths)

    def __str__(self):
        return "".join(words_of(self._state.root))
