"""Shapes of trees, gone through without recursion, as they can be of any height."""


def spread(shape):
    """All shapes in a shape, itself first: those of both sides of each, in this order; None for what is no shape."""
    parts = [shape]
    at = 0
    while at < len(parts):
        part = parts[at]
        if not isinstance(part, tuple) or len(part) not in (0, 2):
            return None
        parts.extend(list(part))
        at += 1
    return parts


def joints(parts):
    """For each part that is no empty shape, from the last one back: its place, and the place of its left side."""
    side = len(parts)
    found = []
    for place in range(len(parts) - 1, -1, -1):
        if len(parts[place]) > 0:
            side -= 2
            found.append((place, side))
    return found


def weights_of(parts):
    """The weights of parts."""
    weights = [1] * len(parts)
    for place, side in joints(parts):
        weights[place] = weights[side] + weights[side + 1]
    return weights


def halves_of(many):
    """The shape of halves of so many keys."""
    if many == 0:
        return ()
    left, right = many // 2, many - 1 - many // 2
    side = halves_of(left)
    return side, side if right == left else halves_of(right)
