"""Stacks: what a shelf is at one time, and what a deed makes of it."""

from evenrules.checks import need_key
from evenrules.dealing import FEWER, MORE, behind_put, behind_take, dealt, fewest_pages
from evenrules.errors import TooMany
from evenrules.states import MOST_KEYS, first_from


class Stack:
    """The keys of a shelf, ascending, the value of each, and the fills of its rows, from the bottom up.

    A stack that a shelf has is never changed; a deed changes a copy, which takes its place.
    """

    def __init__(self, order, worths, rows):
        self.order = order
        self.worths = worths
        self.rows = rows

    def copied(self):
        """A stack of its own; the lists of fills are shared, as a deed puts others in their places."""
        return Stack(list(self.order), dict(self.worths), list(self.rows))


def built_stack(most, worths):
    """The stack whose keys, and the entries of each row above, are dealt to the fewest pages."""
    order = sorted([int(key) for key in worths])
    rows = []
    entries = len(order)
    while entries > 0:
        row = dealt(entries, fewest_pages(most, entries))
        rows.append(row)
        entries = len(row) if len(row) > 1 else 0
    return Stack(order, worths, rows)


def put_in(shape, stack, key, worth):
    """Puts a key into a stack; shape is the pair of the fill rule and the most entries of a page."""
    need_key(key)
    if key not in stack.worths:
        if len(stack.order) == MOST_KEYS:
            raise TooMany("keys", MOST_KEYS)
        at = first_from(stack.order, key)
        stack.order.insert(at, key)
        if len(stack.rows) == 0:
            stack.rows.append([1])
        else:
            do_deed(shape, stack.rows, (MORE, at))
    stack.worths[key] = worth


def put_all(shape, stack, entries):
    """Puts pairs of a key and a value into a stack, one by one."""
    for key, worth in entries:
        put_in(shape, stack, key, worth)


def take_out(shape, stack, key):
    """Takes a key that is there out of a stack."""
    at = first_from(stack.order, key)
    del stack.order[at]
    del stack.worths[key]
    do_deed(shape, stack.rows, (FEWER, at))


def do_deed(shape, rows, deed):
    """Does a put or a take in the bottom row, and what this is for the rows above."""
    rule, most = shape
    at = 0
    while deed is not None and at < len(rows):
        kind, index = deed
        if kind == MORE:
            rows[at], deed = behind_put(rule, most, rows[at], index)
        else:
            rows[at], deed = behind_take(rule, most, rows[at], index)
        if len(rows[at]) < 2:
            # Above a row of one page, or of none, stands nothing.
            del rows[at + len(rows[at]):]
            return
        at += 1
    if deed is not None:
        # The topmost row had one page, and has two now.
        rows.append([2])


def entries_in(stack):
    """The pairs of key and value, keys ascending."""
    return [(key, stack.worths[key]) for key in stack.order]
