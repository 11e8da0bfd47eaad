"""How many fair shapes there are, and which one has an index among all of as many keys."""

from evenrules.checks import is_within
from evenrules.errors import BadNumber, BadOther
from evenrules.rules import need_rule
from evenrules.shapes import joints, spread, weights_of

MOST_COUNTED = 200


def counts(rule, keys):
    """The numbers of fair shapes of 0, 1, .. keys."""
    need_counted(rule, keys)
    return tuple(many_by_weight(rule, keys + 1)[1:])


def shapes(rule, keys):
    """All fair shapes of so many keys, each made when it is requested."""
    need_counted(rule, keys)
    if keys == 0:
        yield ()
    else:
        weight = keys + 1
        for part in fair_lefts(rule, weight):
            first, second = part - 1, weight - part - 1
            for left in shapes(rule, first):
                for right in shapes(rule, second):
                    yield (left, right)


def shape_at(rule, keys, index):
    """The shape with this index among all fair ones of so many keys."""
    need_counted(rule, keys)
    many = many_by_weight(rule, keys + 1)
    if not is_within(index, 0, many[keys + 1] - 1):
        raise BadNumber(index)
    return shape_of(rule, many, keys + 1, index)


def place_of(rule, shape):
    """The index of a fair shape among all of as many keys."""
    need_rule(rule)
    parts = spread(shape)
    if parts is None or len(parts) > 2 * MOST_COUNTED + 1:
        raise BadOther("shape")
    weights = weights_of(parts)
    many = many_by_weight(rule, weights[0])
    places = [0] * len(parts)
    for place, side in joints(parts):
        left, right = weights[side], weights[side + 1]
        lefts = fair_lefts(rule, left + right)
        if left not in lefts:
            raise BadOther("shape")
        ahead = sum([many[other] * many[left + right - other] for other in range(lefts[0], left)])
        places[place] = ahead + places[side] * many[right] + places[side + 1]
    return places[0]


def need_counted(rule, keys):
    """Raises BadRule for what is no rule by weights, BadNumber for a number of keys whose shapes are not counted."""
    need_rule(rule)
    if not is_within(keys, 0, MOST_COUNTED):
        raise BadNumber(keys)


def fair_lefts(rule, weight):
    """The weights that the left side of a fair node of this weight can have, ascending."""
    over, under = rule.times
    least = max(1, -((rule.plus - under * weight) // (over + under)))
    return list(range(least, weight - least + 1))


def many_by_weight(rule, most):
    """The numbers of fair shapes of the weights 0, 1, .., most; there is none of the weight 0."""
    many = [0, 1]
    for weight in range(2, most + 1):
        many.append(sum([many[left] * many[weight - left] for left in fair_lefts(rule, weight)]))
    return many


def shape_of(rule, many, weight, index):
    """The fair shape of a weight with an index."""
    if weight == 1:
        return ()
    for left in fair_lefts(rule, weight):
        here = many[left] * many[weight - left]
        if index < here:
            first, second = divmod(index, many[weight - left])
            return shape_of(rule, many, left, first), shape_of(rule, many, weight - left, second)
        index = index - here
    return ()
