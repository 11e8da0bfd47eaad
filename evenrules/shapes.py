"""Shapes of trees, gone through without recursion, as they can be of any height."""


def joints_of(shape):
    """The joints of a shape, from the top: for each shape in it with sides its place, and that of its left side.

    The right side has the place behind; the shape itself has the place 0. None for what is no shape.
    """
    parts = [shape]
    found = []
    at = 0
    while at < len(parts):
        part = parts[at]
        if not isinstance(part, tuple):
            return None
        if len(part) == 2:
            left, right = part
            found.append((at, len(parts)))
            parts.append(left)
            parts.append(right)
        elif len(part) > 0:
            return None
        at += 1
    return found


def weights_of(joints):
    """The weights at all places of a shape with these joints."""
    weights = [1] * (2 * len(joints) + 1)
    for place, side in joints[::-1]:
        weights[place] = weights[side] + weights[side + 1]
    return weights


def are_joints_fair(rule, joints, weights):
    """Whether the weights at the sides of all joints are fair."""
    over, under = rule.times
    plus = rule.plus
    for _, side in joints:
        one, other = weights[side], weights[side + 1]
        if under * one > over * other + plus or under * other > over * one + plus:
            return False
    return True


def halves_of(many):
    """The shape of halves of so many keys."""
    if many == 0:
        return ()
    left, right = many // 2, many - 1 - many // 2
    side = halves_of(left)
    return side, side if right == left else halves_of(right)
