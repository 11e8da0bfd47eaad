"""The reader of the texts of trees and shelves; texts.py writes them."""

from evenrules.checks import is_key, is_within
from evenrules.entries import can_be_value, read_value
from evenrules.errors import BadText
from evenrules.fills import LEAST_SIZE, MOST_SIZE, FillRule, wrong_fill_word
from evenrules.nodes import Node
from evenrules.rules import WeightRule, wrong_rule_word
from evenrules.shelves import Shelf
from evenrules.stacks import Stack
from evenrules.states import MOST_KEYS, State
from evenrules.trees import Tree
from evenrules.words import read_number


class Growth:
    """The nodes of a tree whose keys are read, each ahead of those of its sides, the left side ahead of the right one.

    Nodes are told by their indexes in the order of reading.
    """

    def __init__(self):
        self.found = []
        self.lefts = []
        self.rights = []
        # The nodes whose right side can still begin, from the root down.
        self.waiting = []
        # The greatest key of whose right side a key has been read.
        self.behind = None

    def has_room(self, key):
        """Whether a key that has not been read can stand next."""
        return self.behind is None or key > self.behind

    def grow(self, key):
        """Adds the node of a key that can stand next."""
        above = None
        while len(self.waiting) > 0 and self.found[self.waiting[-1]] < key:
            above = self.waiting.pop()
        if above is not None:
            self.rights[above] = len(self.found)
            self.behind = self.found[above]
        elif len(self.waiting) > 0:
            self.lefts[self.waiting[-1]] = len(self.found)
        self.waiting.append(len(self.found))
        self.found.append(key)
        self.lefts.append(None)
        self.rights.append(None)

    def topmost(self):
        """The topmost node."""
        nodes = [None] * (len(self.found) + 1)
        # From the last one back, so that the sides of a node are there; a side that lacks stands behind all.
        for at in range(len(self.found) - 1, -1, -1):
            left = None if self.lefts[at] is None else nodes[self.lefts[at]]
            right = None if self.rights[at] is None else nodes[self.rights[at]]
            nodes[at] = Node(left, self.found[at], right)
        return nodes[0]


def read_tree(text):
    """The tree that has this text."""
    lines = lines_of(text, "tree")
    need_words(1, wrong_rule_word(lines[0][1:]))
    rule = WeightRule.read(" ".join(lines[0][1:]))
    growth, worths = Growth(), {}
    for line in range(1, len(lines)):
        key = read_key(lines[line], line)
        if key in worths or not growth.has_room(key) or len(worths) == MOST_KEYS:
            raise BadText(line, 0)
        worths[key] = read_worth(lines[line], line)
        growth.grow(key)
    return Tree(rule, State(rule, growth.topmost(), sorted([int(key) for key in worths]), worths))


def read_shelf(text):
    """The shelf that has this text."""
    lines = lines_of(text, "shelf")
    words = lines[0]
    if len(words) == 1 or not is_within(read_number(words[1]), LEAST_SIZE, MOST_SIZE):
        raise BadText(0, 1)
    need_words(2, wrong_fill_word(words[2:]))
    most = read_number(words[1])
    rows = read_rows(lines, most) if len(lines) > 1 else []
    many = sum(rows[0]) if len(rows) > 0 else 0
    order, worths = [], {}
    for line in range(len(rows) + 1, len(rows) + 1 + many):
        need_line(lines, line)
        key = read_key(lines[line], line)
        if len(order) > 0 and key <= order[-1]:
            raise BadText(line, 0)
        worths[key] = read_worth(lines[line], line)
        order.append(key)
    if len(lines) > len(rows) + 1 + many:
        raise BadText(len(rows) + 1 + many, 0)
    return Shelf(FillRule.read(" ".join(words[2:])), most, Stack(order, worths, rows))


def lines_of(text, thing):
    """The lines of a text, each the list of its words; raises BadText if it does not begin with the word of a thing."""
    if not isinstance(text, str):
        raise BadText(0, 0)
    lines = [line.split(" ") for line in text.split("\n")]
    if lines[0][0] != thing:
        raise BadText(0, 0)
    return lines


def need_words(start, wrong):
    """Raises BadText for the wrong word, if any, of those from a start on in the first line."""
    if wrong is not None:
        raise BadText(0, start + wrong)


def need_line(lines, line):
    """Raises BadText if a line is missing."""
    if line == len(lines):
        raise BadText(line, 0)


def read_rows(lines, most):
    """The fills of the rows, from the bottom up; a row of several pages has one above it."""
    rows = [read_row(lines[1], 1, most, MOST_KEYS)]
    while len(rows[-1]) > 1:
        line = len(rows) + 1
        need_line(lines, line)
        row = read_row(lines[line], line, most, len(rows[-1]))
        if sum(row) < len(rows[-1]):
            raise BadText(line, len(lines[line]))
        rows.append(row)
    return rows


def read_row(words, line, most, entries):
    """The fills of a row with at most so many entries."""
    if words[0] != "row":
        raise BadText(line, 0)
    if len(words) == 1:
        raise BadText(line, 1)
    row = []
    for at in range(1, len(words)):
        fill = read_number(words[at])
        if not is_within(fill, 1, most) or fill > entries:
            raise BadText(line, at)
        entries = entries - fill
        row.append(fill)
    return row


def read_key(words, line):
    """The key at the beginning of a line."""
    key = read_number(words[0])
    if not is_key(key):
        raise BadText(line, 0)
    return key


def read_worth(words, line):
    """The value behind the key of a line."""
    if len(words) == 1 or not can_be_value(words[1]):
        raise BadText(line, 1)
    if len(words) > 2:
        raise BadText(line, 2)
    return read_value(words[1])
