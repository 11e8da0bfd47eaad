"""Deeds: puts and takes of keys in trees under a rule. They change no tree, and give another one."""

from evenrules.errors import Stuck
from evenrules.nodes import Node, weight_of
from evenrules.rules import are_fair


def with_key(rule, root, key):
    """The tree behind a put of a key that is not there; raises Stuck."""
    steps = []
    node = root
    while node is not None:
        is_left = key < node.key
        steps.append((node, node.key, is_left))
        node = node.left if is_left else node.right
    return mended(rule, steps, Node(None, key, None), key)


def without_key(rule, root, key):
    """The tree behind a take of a key that is there; raises Stuck."""
    steps = []
    node = root
    while node.key != key:
        is_left = key < node.key
        steps.append((node, node.key, is_left))
        node = node.left if is_left else node.right
    if node.left is None or node.right is None:
        return mended(rule, steps, node.left if node.right is None else node.right, key)
    is_left = node.right.weight < node.left.weight
    below, neighbour = steps_to_neighbour(node, is_left)
    steps.append((node, neighbour.key, is_left))
    steps.extend(list(below))
    return mended(rule, steps, neighbour.left if is_left else neighbour.right, key)


def steps_to_neighbour(node, is_left):
    """A pair: the steps from a side of a node on to its greatest key, if it is the left one, or its least; its node."""
    steps = []
    neighbour = node.left if is_left else node.right
    further = neighbour.right if is_left else neighbour.left
    while further is not None:
        steps.append((neighbour, neighbour.key, not is_left))
        neighbour = further
        further = neighbour.right if is_left else neighbour.left
    return steps, neighbour


def mended(rule, steps, side, deed_key):
    """The tree where a side is new at the end of steps: triples of a node, its key from now on, and the way on."""
    for node, key, is_left in steps[::-1]:
        if is_left:
            side = balanced(rule, side, key, node.right, deed_key)
        else:
            side = balanced(rule, node.left, key, side, deed_key)
    return side


def balanced(rule, left, key, right, deed_key):
    """The tree with these sides and this key, turned if they are not fair."""
    one, other = weight_of(left), weight_of(right)
    if are_fair(rule, one, other):
        return Node(left, key, right)
    if one < other:
        return turned(rule, (left, key, right), False, deed_key)
    return turned(rule, (right, key, left), True, deed_key)


def turned(rule, parts, is_mirrored, deed_key):
    """The tree of a lighter side, a key and a heavier side, turned; mirrored, if the heavier side is the left one."""
    light, key, heavy = parts
    inner, outer = sides_of(heavy, is_mirrored)
    near, far = (None, None) if inner is None else sides_of(inner, is_mirrored)
    near_weight = None if inner is None else weight_of(near)
    times = rule.turns(weight_of(light), weight_of(inner), weight_of(outer), near_weight)
    if times == 0:
        raise Stuck(deed_key)
    if times == 1:
        return joined(joined(light, key, inner, is_mirrored), heavy.key, outer, is_mirrored)
    first = joined(light, key, near, is_mirrored)
    return joined(first, inner.key, joined(far, heavy.key, outer, is_mirrored), is_mirrored)


def sides_of(node, is_mirrored):
    """The sides of a node, the one nearer to the lighter side of the node above first."""
    return (node.right, node.left) if is_mirrored else (node.left, node.right)


def joined(near, key, far, is_mirrored):
    """The node with these sides, the one nearer to the lighter side first."""
    return Node(far, key, near) if is_mirrored else Node(near, key, far)
