"""The texts of trees and shelves; reader.py reads them."""

from evenrules.entries import can_be_written, value_word
from evenrules.errors import BadOther
from evenrules.nodes import nodes_of
from evenrules.shelves import Shelf
from evenrules.trees import Tree
from evenrules.words import number_word, number_words


def tree_text(tree):
    """The text of a tree: its rule, then the keys with their values, each ahead of those of its sides."""
    if not isinstance(tree, Tree):
        raise BadOther("tree")
    state = tree._state
    keys = [node.key for node in nodes_of(state.root)]
    return "\n".join([f"tree {tree.rule}", *entry_lines(keys, state.worths)])


def shelf_text(shelf):
    """The text of a shelf: its size and rule, its rows from the bottom up, then the keys with their values."""
    if not isinstance(shelf, Shelf):
        raise BadOther("shelf")
    stack = shelf._stack
    lines = [f"shelf {number_word(shelf.most)} {shelf.fill_rule}"]
    lines.extend([f"row {number_words(fills)}" for fills in stack.rows])
    lines.extend(entry_lines(stack.order, stack.worths))
    return "\n".join(lines)


def entry_lines(keys, worths):
    """The lines of keys with their values."""
    if not all([can_be_written(worths[key]) for key in keys]):
        raise BadOther("value")
    return [f"{number_word(key)} {value_word(worths[key])}" for key in keys]
