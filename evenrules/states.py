"""What a tree is at one time. A state never changes: a deed gives another one, so that nothing has to be undone."""

from evenrules.checks import need_key
from evenrules.deeds import with_key, without_key
from evenrules.errors import TooMany
from evenrules.nodes import Node, halved, nodes_of, weight_of
from evenrules.rules import are_fair

MOST_KEYS = 2000


class State:
    """The rule of a tree, its topmost node, its keys, ascending, and the value of each."""

    def __init__(self, own_rule, root, order, worths):
        self.own_rule = own_rule
        self.root = root
        self.order = order
        self.worths = worths


def halves_state(rule, worths):
    """The state with the tree of halves of these keys."""
    order = sorted([int(key) for key in worths])
    return State(rule, halved(order, 0, len(order)), order, worths)


def first_from(order, key):
    """The index of the first key of a sorted list that is not less than a key."""
    low, high = 0, len(order)
    while low < high:
        middle = (low + high) // 2
        if order[middle] < key:
            low = middle + 1
        else:
            high = middle
    return low


def with_entries(state, entries):
    """The state behind puts of pairs of a key and a value, one by one."""
    root = state.root
    order = list(state.order)
    worths = dict(state.worths)
    for key, worth in entries:
        need_key(key)
        if key not in worths:
            if len(worths) == MOST_KEYS:
                raise TooMany("keys", MOST_KEYS)
            root = with_key(state.own_rule, root, key)
            order.insert(first_from(order, key), key)
        worths[key] = worth
    return State(state.own_rule, root, order, worths)


def without_entry(state, key):
    """The state behind a take of a key that is there."""
    worths = dict(state.worths)
    del worths[key]
    root = without_key(state.own_rule, state.root, key)
    at = first_from(state.order, key)
    return State(state.own_rule, root, [*state.order[:at], *state.order[at + 1:]], worths)


def entries_of(state):
    """The pairs of key and value, keys ascending."""
    return [(key, state.worths[key]) for key in state.order]


def under_rule(state, rule):
    """The state with another rule: the topmost nodes that are not fair by it are built anew."""
    return State(rule, rebuilt_unfair(rule, state.root, state.order, 0), state.order, state.worths)


def rebuilt_unfair(rule, node, order, start):
    """A node whose keys begin at an index, with trees of halves where nodes are not fair and all above them are."""
    if node is None:
        return None
    left, right = weight_of(node.left), weight_of(node.right)
    if not are_fair(rule, left, right):
        return halved(order, start, start + node.weight - 1)
    # No deep recursion: it goes down as far as nodes are fair, and fair trees are not high.
    return Node(rebuilt_unfair(rule, node.left, order, start), node.key,
                rebuilt_unfair(rule, node.right, order, start + left))


def unfair_keys(state):
    """The keys of the nodes whose sides are not fair, ascending."""
    found = []
    for node in nodes_of(state.root):
        if not are_fair(state.own_rule, weight_of(node.left), weight_of(node.right)):
            found.append(int(node.key))
    return sorted([int(key) for key in found])
