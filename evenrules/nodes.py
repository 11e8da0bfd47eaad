"""Nodes of sorted trees: they never change, so that trees can share them."""


class Node:
    """A key with its sides; a side without keys is None."""

    def __init__(self, left, key, right):
        self.left = left
        self.key = key
        self.right = right
        self.weight = weight_of(left) + weight_of(right)
        # Kept in each node: made anew it would have to go down trees of any height.
        self.form = (form_of(left), key, form_of(right))


def weight_of(node):
    """The weight of a side."""
    return 1 if node is None else node.weight


def form_of(node):
    """The layout of a side."""
    return () if node is None else node.form


def halved(order, low, high):
    """The tree of halves of the keys of a sorted list from one index to ahead of another one."""
    if low == high:
        return None
    middle = low + (high - low) // 2
    return Node(halved(order, low, middle), order[middle], halved(order, middle + 1, high))


def nodes_of(root):
    """All nodes of a tree, each ahead of those of its sides; without recursion, as the tree can be of any height."""
    found = []
    waiting = [root]
    while waiting:
        node = waiting.pop()
        if node is not None:
            found.append(node)
            waiting.append(node.right)
            waiting.append(node.left)
    return found


def levels_of(root):
    """How many nodes the longest way down has."""
    many = 0
    level = [] if root is None else [root]
    while level:
        many += 1
        sides = [node.left for node in level]
        sides.extend([node.right for node in level])
        level = [node for node in sides if node is not None]
    return many


def words_of(root):
    """The pieces of the text of a tree."""
    if root is None:
        return ["-"]
    pieces = []
    waiting = [root]
    while waiting:
        node = waiting.pop()
        if isinstance(node, str):
            pieces.append(node)
            continue
        if node.right is not None:
            waiting.extend([")", node.right, " ("])
        waiting.append(str(node.key))
        if node.left is not None:
            waiting.extend([") ", node.left, "("])
    return pieces
