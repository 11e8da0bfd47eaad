"""Short steps: the reduction of lattices by Lenstra, Lenstra and Lovasz, in whole numbers."""

from evenrules.grids import dot, moved


def shortened(steps, images):
    """Steps of the same grid that are short and far from parallel, as their images are; images are whole numbers."""
    steps, images = list(steps), list(images)
    at = 1
    while at < len(steps):
        for place in range(at - 1, -1, -1):
            times = nearest_times(images, at, place)
            steps[at] = moved(steps[at], -times, steps[place])
            images[at] = moved(images[at], -times, images[place])
        if is_in_order(images, at):
            at += 1
        else:
            steps[at - 1], steps[at] = steps[at], steps[at - 1]
            images[at - 1], images[at] = images[at], images[at - 1]
            at = at - 1 if at > 1 else 1
    return steps


def nearest_times(images, at, place):
    """How many times the image at a place, as far as it is new there, is best taken from a later one."""
    table = squares(images)
    part, whole = table[at][place], table[place][place]
    return (2 * part + whole) // (2 * whole)


def is_in_order(images, at):
    """Whether an image adds enough to the one ahead of it, so that they need not change their places."""
    table = squares(images)
    before = table[at - 2][at - 2] if at > 1 else 1
    shared, own, ahead = table[at][at - 1], table[at][at], table[at - 1][at - 1]
    return 4 * (own * before + shared * shared) >= 3 * ahead * ahead


def squares(images):
    """The table of Gram and Schmidt, each line times the determinant that stands at the end of the line ahead."""
    table = []
    for at, image in enumerate(images):
        line = []
        for place in range(at + 1):
            other = line if place == at else table[place]
            value, before = dot(image, images[place]), 1
            for inner in range(place):
                size = table[inner][inner]
                value = (size * value - line[inner] * other[inner]) // before
                before = size
            line.append(value)
        table.append(line)
    return table
