"""Falls: fair trees, and keys by whose deeds a wrong rule spoils them."""

from evenrules.cases import Case, is_case, numbers_break
from evenrules.deeds import without_key
from evenrules.errors import BadOther, TooMany
from evenrules.judged import Wrong
from evenrules.nodes import Node, halved, weight_of
from evenrules.rules import need_rule
from evenrules.states import State
from evenrules.trees import Tree


def fall_of(rule, wrong):
    """A fair tree, and a key whose deed leaves a node that is not fair, or is stuck."""
    need_rule(rule)
    if not breaks_by(rule, wrong):
        raise BadOther("wrong")
    is_put = wrong.deed == "put"
    light, *parts = wrong.numbers
    # With the key of the deed: ahead of it this is the left side, behind a put the right one.
    left = light if is_put else light + 1
    many = left + sum(parts) - 1
    if many - (1 if is_put else 0) > Tree.MOST:
        raise TooMany("keys", Tree.MOST)
    order = list(range(1, many + 1))
    root = Node(halved(order, 0, left - 1), left, heavy_side(order, left, parts))
    key = key_at_end(root.right if is_put else root.left)
    if is_put:
        # This turns no node: fair sides stay fair if the heavier one loses a key.
        root = without_key(rule, root, key)
        order.remove(key)
    return Tree(rule, State(rule, root, order, {name: None for name in order})), key


def breaks_by(rule, wrong):
    """Whether a value is a Wrong with numbers that keep the tests of a case of the rule."""
    if not isinstance(wrong, Wrong):
        return False
    case = Case(wrong.deed, wrong.once, wrong.twice)
    return is_case(rule, case) and numbers_break(rule, case, wrong.numbers)


def heavy_side(order, start, parts):
    """The tree of the keys from an index on with trees of halves of the weights c and d, or e, f and d."""
    at = start + parts[0]
    side = halved(order, start, at - 1)
    for weight in parts[1:]:
        side = Node(side, order[at - 1], halved(order, at, at + weight - 1))
        at += weight
    return side


def key_at_end(node):
    """The key without sides that is come to by going on to the heavier side, to the left if both are the same."""
    while node.weight > 2:
        node = node.left if weight_of(node.left) >= weight_of(node.right) else node.right
    return node.key
