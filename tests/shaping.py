"""Fair trees and shapes found by trying all splits, by the words of points [3], [4] and [10] alone."""

from functools import lru_cache


def is_fair_pair(rule, x, y):
    """Whether two weights are fair."""
    (p, q), k = rule.times, rule.plus
    return q * y <= p * x + k and q * x <= p * y + k


def fair_splits(rule, weight):
    """All pairs of fair weights that make a weight, the lesser left one first."""
    return [(x, weight - x) for x in range(1, weight) if is_fair_pair(rule, x, weight - x)]


def all_shapes(rule, weight):
    """All fair shapes of a weight, in the order of the document."""
    if weight == 1:
        return [()]
    return [(left, right) for x, y in fair_splits(rule, weight)
            for left in all_shapes(rule, x) for right in all_shapes(rule, y)]


def heights_by_weight(rule, most):
    """The greatest and the least heights of fair trees of the weights 1, 2, .., most."""
    high, low = [None, 0], [None, 0]
    for weight in range(2, most + 1):
        splits = fair_splits(rule, weight)
        high.append(1 + max(max(high[x], high[y]) for x, y in splits))
        low.append(1 + min(max(low[x], low[y]) for x, y in splits))
    return high[1:], low[1:]


def weight_of_shape(shape):
    return 1 if shape == () else weight_of_shape(shape[0]) + weight_of_shape(shape[1])


def height_of_shape(shape):
    return 0 if shape == () else 1 + max(height_of_shape(shape[0]), height_of_shape(shape[1]))


def is_fair_shape(rule, shape):
    if shape == ():
        return True
    pair = weight_of_shape(shape[0]), weight_of_shape(shape[1])
    return is_fair_pair(rule, *pair) and is_fair_shape(rule, shape[0]) and is_fair_shape(rule, shape[1])


@lru_cache(maxsize=None)
def halves(many):
    """The shape of halves, by point [3]."""
    return () if many == 0 else (halves(many // 2), halves(many - many // 2 - 1))


def high_shape(many):
    """A shape of so many keys where each has one side alone, left and right by turns."""
    shape = ()
    for at in range(many):
        shape = (shape, ()) if at % 2 else ((), shape)
    return shape
