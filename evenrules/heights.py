"""How high and how low fair trees can be, and shapes of such trees."""

from evenrules.checks import is_within
from evenrules.errors import BadNumber, BadOther
from evenrules.rules import least_beside, need_rule
from evenrules.shapes import are_joints_fair, halves_of, joints_of, weights_of

MOST_HEIGHT = 1000
MOST_KEYS = 10 ** 30
MOST_SHAPE_KEYS = 2000


def least_keys(rule, height):
    """The least number of keys of a fair tree of this height."""
    need_rule(rule)
    need_number(height, MOST_HEIGHT)
    weight = 1
    for _ in range(height):
        weight = weight + least_beside(rule, weight)
    return weight - 1


def heights(rule):
    """The least numbers of keys of fair trees of the heights 0, 1, 2, .., without an end."""
    need_rule(rule)
    weight = 1
    while True:
        yield weight - 1
        weight = weight + least_beside(rule, weight)


def greatest_height(rule, keys):
    """The greatest height of a fair tree of so many keys."""
    need_rule(rule)
    need_number(keys, MOST_KEYS)
    return len(least_weights(rule, keys + 1)) - 1


def least_height(keys):
    """The least height of a tree of so many keys; that of halves has it."""
    need_number(keys, MOST_KEYS)
    return keys.bit_length()


def halves_shape(keys):
    """The shape of halves."""
    need_number(keys, MOST_SHAPE_KEYS)
    return halves_of(keys)


def tall_shape(rule, keys):
    """A fair shape of so many keys with the greatest height."""
    need_rule(rule)
    need_number(keys, MOST_SHAPE_KEYS)
    weight = keys + 1
    least = least_weights(rule, weight)
    rests = []
    while weight > 1:
        while least[-1] > weight:
            least.pop()
        half = (weight + 1) // 2
        left = half if half > least[-2] else least[-2]
        rests.append(weight - left)
        weight = left
    shape = ()
    for rest in rests[::-1]:
        shape = (shape, halves_of(rest - 1))
    return shape


def keys_of(shape):
    """The number of keys of the trees of a shape."""
    return len(need_joints(shape))


def height_of(shape):
    """The height of the trees of a shape."""
    joints = need_joints(shape)
    found = [0] * (2 * len(joints) + 1)
    for place, side in joints[::-1]:
        left, right = found[side], found[side + 1]
        found[place] = 1 + (left if left > right else right)
    return found[0]


def is_fair(rule, shape):
    """Whether any value is a shape, and fair."""
    need_rule(rule)
    joints = joints_of(shape)
    return joints is not None and are_joints_fair(rule, joints, weights_of(joints))


def need_number(value, most):
    """Raises BadNumber for what is no integer from 0 to most."""
    if not is_within(value, 0, most):
        raise BadNumber(value)


def need_joints(shape):
    """The joints of a shape; raises BadOther for what is none."""
    joints = joints_of(shape)
    if joints is None:
        raise BadOther("shape")
    return joints


def least_weights(rule, most):
    """The least weights of fair trees of the heights 0, 1, 2, .., as far as they are not above most."""
    found = [1]
    weight = 1 + least_beside(rule, 1)
    while weight <= most:
        found.append(weight)
        weight = weight + least_beside(rule, weight)
    return found
