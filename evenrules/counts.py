"""How many fair shapes there are, and which one has an index among all of as many keys."""

from evenrules.checks import is_within
from evenrules.errors import BadNumber, BadOther
from evenrules.rules import least_part, need_rule
from evenrules.shapes import are_joints_fair, joints_of, weights_of

MOST_COUNTED = 200


def counts(rule, keys):
    """The numbers of fair shapes of 0, 1, .. keys."""
    need_counted(rule, keys)
    return tuple(many_by_weight(rule, keys + 1)[1:])


def shapes(rule, keys):
    """All fair shapes of so many keys, each made when it is requested."""
    need_counted(rule, keys)
    if keys == 0:
        yield ()
    else:
        weight = keys + 1
        for part in fair_lefts(rule, weight):
            first, second = part - 1, weight - part - 1
            for left in shapes(rule, first):
                for right in shapes(rule, second):
                    yield (left, right)


def shape_at(rule, keys, index):
    """The shape with this index among all fair ones of so many keys."""
    need_counted(rule, keys)
    weight = keys + 1
    many = many_by_weight(rule, weight - least_part(rule, weight))
    if not is_within(index, 0, many_of(many, weight, least_part(rule, weight)) - 1):
        raise BadNumber(index)
    return shape_of(rule, many, weight, index)


def place_of(rule, shape):
    """The index of a fair shape among all of as many keys."""
    need_rule(rule)
    joints = joints_of(shape)
    if joints is None or len(joints) > MOST_COUNTED:
        raise BadOther("shape")
    weights = weights_of(joints)
    if not are_joints_fair(rule, joints, weights):
        raise BadOther("shape")
    many = many_by_weight(rule, weights[0] - least_part(rule, weights[0]))
    places = [0] * len(weights)
    for place, side in joints[::-1]:
        left, right = weights[side], weights[side + 1]
        least = least_part(rule, left + right)
        ahead = sum(pairs_of(many, left + right, least, left)) if left > least else 0
        places[place] = ahead + places[side] * many[right] + places[side + 1]
    return places[0]


def need_counted(rule, keys):
    """Raises BadRule for what is no rule by weights, BadNumber for a number of keys whose shapes are not counted."""
    need_rule(rule)
    if not is_within(keys, 0, MOST_COUNTED):
        raise BadNumber(keys)


def fair_lefts(rule, weight):
    """The weights that the left side of a fair node of this weight can have, ascending."""
    least = least_part(rule, weight)
    return list(range(least, weight - least + 1))


def pairs_of(many, weight, start, end):
    """The numbers of shapes of a weight whose left side has one of the weights from start to ahead of end, for each."""
    lefts, rights = many[start:end], many[weight - start:weight - end:-1]
    return [left * right for left, right in zip(lefts, rights)]


def many_of(many, weight, least):
    """The number of fair shapes of a weight whose sides weigh least or more; many has the numbers of lesser weights."""
    if weight == 1:
        return 1
    # The shapes with the heavier side to the right are as many as those with the heavier one to the left.
    uneven = 2 * sum(pairs_of(many, weight, least, (weight + 1) // 2))
    return uneven if weight % 2 == 1 else uneven + many[weight // 2] * many[weight // 2]


def many_by_weight(rule, most):
    """The numbers of fair shapes of the weights 0, 1, .., most; there is none of the weight 0."""
    many = [0, 1]
    for weight in range(2, most + 1):
        many.append(many_of(many, weight, least_part(rule, weight)))
    return many


def shape_of(rule, many, weight, index):
    """The fair shape of a weight with an index."""
    if weight == 1:
        return ()
    left = least_part(rule, weight)
    here = many[left] * many[weight - left]
    while index >= here:
        index = index - here
        left += 1
        here = many[left] * many[weight - left]
    first, second = divmod(index, many[weight - left])
    return shape_of(rule, many, left, first), shape_of(rule, many, weight - left, second)
