"""Copies of values, so that what is done to a list or a dict afterwards does not reach them."""


def kept(value):
    """The value, with a copy of each list and each dict in it, however deep it stands."""
    if not isinstance(value, (list, tuple, dict)):
        return value
    if isinstance(value, tuple) and is_flat(value):
        return value
    return copied_deep(value)


def is_flat(value):
    """Whether a tuple has no list, no dict and no other tuple in it."""
    for part in value:
        if isinstance(part, (list, tuple, dict)):
            return False
    return True


def copied_deep(value):
    """A list, a tuple or a dict with copies of all that can be changed in it."""
    things = [value]
    ends = []
    at = 0
    # No recursion: the layout of a tree is as deep as the tree is high.
    while at < len(things):
        things.extend(list(parts_of(things[at])))
        ends.append(len(things))
        at += 1
    made = list(things)
    loose = [isinstance(thing, (list, dict)) for thing in things]
    for place in range(len(things) - 1, -1, -1):
        first, end = ends[place - 1] if place > 0 else 1, ends[place]
        if any(loose[first:end]):
            loose[place] = True
        if loose[place]:
            made[place] = rebuilt(things[place], made[first:end])
    return made[0]


def parts_of(value):
    """The list of the values that stand in a value; keys of dicts cannot change and are left out."""
    if isinstance(value, (list, tuple)):
        return list(value)
    return list(value.values()) if isinstance(value, dict) else []


def rebuilt(value, parts):
    """A list, a tuple or a dict like this one, with other parts; they stand in a list of their own."""
    if isinstance(value, dict):
        return {key: part for key, part in zip(list(value), parts)}
    return tuple(parts) if isinstance(value, tuple) else parts


def are_same(one, other):
    """Whether two values are equal, their kinds counted: True is not 1, a list is not a tuple."""
    pairs = [(one, other)]
    # No recursion: the layout of a tree is as deep as the tree is high.
    while pairs:
        mine, its = pairs.pop()
        if isinstance(mine, (list, tuple, dict)):
            if not are_alike(mine, its):
                return False
            pairs.extend(pairs_of_parts(mine, its))
        # In lists one and the same object equals itself without being asked: a tree can be a value of its own keys.
        elif isinstance(mine, bool) != isinstance(its, bool) or [mine] != [its]:
            return False
    return True


def are_alike(one, other):
    """Whether a list, a tuple or a dict is of the kind of another value, with as many parts, and the same names."""
    if isinstance(one, dict):
        return isinstance(other, dict) and len(one) == len(other) and all([name in other for name in one])
    is_same_kind = isinstance(other, list) if isinstance(one, list) else isinstance(other, tuple)
    return is_same_kind and len(one) == len(other)


def pairs_of_parts(one, other):
    """The parts of two lists, tuples or dicts side by side, the names of dicts among them."""
    if not isinstance(one, dict):
        return list(zip(one, other))
    names = {name: name for name in other}
    return [*[(name, names[name]) for name in one], *[(one[name], other[name]) for name in one]]
