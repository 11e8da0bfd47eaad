"""A playing of point [5] that is not the package's own: on layouts, by recursion, with weights that are counted anew."""

from evenrules.rules import TurnRule
from shaping import is_fair_pair


# The keys of the nodes that were turned; a test may clear it.
TURNS = []


class IsStuck(Exception):
    """The deed is stuck."""


def weight(layout):
    return 1 if layout == () else weight(layout[0]) + weight(layout[2])


def looked_at(rule, layout):
    """The layout of a node that was looked at: turned if it is not fair."""
    left, key, right = layout
    if is_fair_pair(rule, weight(left), weight(right)):
        return layout
    if weight(left) > weight(right):
        return mirrored(turned(rule, mirrored(layout)))
    return turned(rule, layout)


def mirrored(layout):
    return () if layout == () else (mirrored(layout[2]), layout[1], mirrored(layout[0]))


def turned(rule, layout):
    """The layout of a node with the heavier side to the right, turned."""
    light, key, (inner, heavy_key, outer) = layout
    once = ((light, key, inner), heavy_key, outer)
    if is_once(rule, weight(light), inner, weight(outer), once):
        TURNS.append(key)
        return once
    if inner == ():
        raise IsStuck()
    TURNS.append(key)
    near, inner_key, far = inner
    return ((light, key, near), inner_key, (far, heavy_key, outer))


def is_once(rule, a, inner, d, once):
    c = weight(inner)
    if isinstance(rule, TurnRule):
        (t, s), r = rule.turn, rule.turn_plus
        return s * c <= t * d + r
    if is_fair_pair(rule, a, c) and is_fair_pair(rule, a + c, d):
        return True
    if c == 1:
        return True
    e, f = weight(inner[0]), weight(inner[2])
    return not (is_fair_pair(rule, a, e) and is_fair_pair(rule, f, d) and is_fair_pair(rule, a + e, f + d))


def put(rule, layout, key):
    """The layout behind a put of a key that is not there."""
    if layout == ():
        return ((), key, ())
    left, own, right = layout
    if key < own:
        return looked_at(rule, (put(rule, left, key), own, right))
    return looked_at(rule, (left, own, put(rule, right, key)))


def take(rule, layout, key):
    """The layout behind a take of a key that is there."""
    left, own, right = layout
    if key < own:
        return looked_at(rule, (take(rule, left, key), own, right))
    if key > own:
        return looked_at(rule, (left, own, take(rule, right, key)))
    if left == ():
        return right
    if right == ():
        return left
    if weight(right) >= weight(left):
        following = keys_of_layout(right)[0]
        return looked_at(rule, (left, following, take(rule, right, following)))
    following = keys_of_layout(left)[-1]
    return looked_at(rule, (take(rule, left, following), following, right))


def keys_of_layout(layout):
    """The keys of a layout, ascending."""
    return [] if layout == () else [*keys_of_layout(layout[0]), layout[1], *keys_of_layout(layout[2])]


def halves_layout(keys):
    """The layout of the tree of halves of sorted keys."""
    if not keys:
        return ()
    middle = len(keys) // 2
    return (halves_layout(keys[:middle]), keys[middle], halves_layout(keys[middle + 1:]))


def unfair_keys(rule, layout):
    """The keys of the nodes whose sides are not fair, ascending."""
    if layout == ():
        return []
    left, key, right = layout
    own = [] if is_fair_pair(rule, weight(left), weight(right)) else [key]
    return [*unfair_keys(rule, left), *own, *unfair_keys(rule, right)]


def exchanged(rule, layout):
    """The layout behind an exchange of the rule for this one."""
    if layout == ():
        return ()
    left, key, right = layout
    if not is_fair_pair(rule, weight(left), weight(right)):
        return halves_layout(keys_of_layout(layout))
    return (exchanged(rule, left), key, exchanged(rule, right))


def height(layout):
    return 0 if layout == () else 1 + max(height(layout[0]), height(layout[2]))


def depth(layout, key):
    left, own, right = layout
    return 0 if key == own else 1 + depth(left if key < own else right, key)


def text(layout):
    """The str of a tree."""
    if layout == ():
        return "-"
    left, key, right = layout
    words = [f"({text(left)})"] if left != () else []
    words.append(str(key))
    return " ".join([*words, f"({text(right)})"] if right != () else words)


def way_of_puts(layout):
    """The keys of a fair layout in an order in which puts lead to it without a turn, by the derivation of point [7]."""
    keys = []
    while layout != ():
        key, layout = without_end(layout)
        keys.append(key)
    return keys[::-1]


def without_end(layout):
    """The key without sides that is come to by going on to the heavier side, and the layout without it."""
    left, key, right = layout
    if left == () and right == ():
        return key, ()
    if weight(left) >= weight(right):
        end, left = without_end(left)
    else:
        end, right = without_end(right)
    return end, (left, key, right)


def layout_of(shape, start=1):
    """The layout of a shape with the keys start, start + 1, .."""
    if shape == ():
        return ()
    left = layout_of(shape[0], start)
    root = start + len(keys_of_layout(left))
    return (left, root, layout_of(shape[1], root + 1))
