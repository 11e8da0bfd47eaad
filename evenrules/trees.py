"""Live trees: they change by deeds under a rule that can be exchanged."""

from evenrules.checks import need_key, need_pairs
from evenrules.errors import BadOther, NoKey, Taken, TooMany
from evenrules.parts import Parts
from evenrules.rules import need_rule
from evenrules.saving import Saved
from evenrules.states import State, entries_of, halves_state, under_rule, unfair_keys, with_entries, without_entry


class Tree(Parts):
    """A tree under a rule by weights; items are pairs of a key and a value, which are put one by one."""

    MOST = 2000

    def __init__(self, rule, items=()):
        need_rule(rule)
        # The blocks of trials that have begun and not ended.
        self._saved = None
        # A state that the package has made stands for its tree.
        if isinstance(items, State):
            self._state = items
        else:
            need_pairs(items)
            self._state = with_entries(State(rule, None, [], {}), items)

    @staticmethod
    def halves(rule, items):
        """The tree of halves of these pairs."""
        need_rule(rule)
        need_pairs(items)
        for key, _ in items:
            need_key(key)
        worths = {}
        for key, worth in items:
            if key in worths:
                raise Taken(key)
            worths[key] = worth
        if len(worths) > Tree.MOST:
            raise TooMany("keys", Tree.MOST)
        return Tree(rule, halves_state(rule, worths))

    def like(self, worths):
        """The tree of halves of entries, with the rule of this one."""
        return Tree(self._state.own_rule, halves_state(self._state.own_rule, worths))

    def put(self, key, value=None):
        """Puts a key with a value; one that is there gets the value."""
        self._state = with_entries(self._state, [(key, value)])

    def __setitem__(self, key, value):
        self.put(key, value)

    def drop(self, key):
        """Takes a key out, and returns its value."""
        if key not in self:
            raise NoKey(key)
        value = self._state.worths[key]
        self._state = without_entry(self._state, key)
        return value

    def __ior__(self, other):
        if not isinstance(other, Tree):
            raise BadOther("other")
        self._state = with_entries(self._state, entries_of(other._state))
        return self

    @property
    def rule(self):
        """The rule of the tree."""
        return self._state.own_rule

    @rule.setter
    def rule(self, value):
        self.exchange(value)

    def exchange(self, rule):
        """Gives the tree another rule; the topmost nodes that are not fair by it are built anew."""
        need_rule(rule)
        self._state = under_rule(self._state, rule)

    def unfair(self):
        """The keys of the nodes whose sides are not fair, ascending."""
        return tuple(unfair_keys(self._state))

    def trial(self):
        """The tree, for `with`: behind the block it is as it was when the block began."""
        return self

    def __enter__(self):
        self._saved = Saved(self._state, self._saved)
        return self

    def __exit__(self, *told):
        self._state = self._saved.state
        self._saved = self._saved.before

    def tried(self, work):
        """What work(tree) returns; the tree is as it was behind it."""
        with self.trial() as same:
            return work(same)

    def twin(self):
        """A tree with the same rule and layout that goes its own way."""
        return Tree(self._state.own_rule, self._state)
