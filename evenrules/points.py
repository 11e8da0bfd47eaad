"""Points: the search for whole numbers that keep tests whose amounts all have a greatest one."""

from math import gcd

from evenrules.boards import board_of, settle
from evenrules.grids import dot, moved, sorted_out, units
from evenrules.short import shortened

FINE = 1000


def find_point(rows, many):
    """Whole numbers that keep all rows, pairs of parts and bound; None if there are none."""
    return search(rows, [0] * many, steps_across(rows, many))


def steps_across(rows, many):
    """The fewest steps that lead to all whole numbers together with steps that change no amount."""
    across, others = [], units(many)
    for parts, _ in rows:
        if any([dot(parts, step) != 0 for step in others]):
            first, *others = sorted_out(parts, others)
            across.append(first)
    return across


def search(rows, point, steps):
    """A point that keeps all rows, and to which steps lead from this point; None if there is none."""
    inner = inner_rows(rows, point, steps)
    if inner is None or len(steps) == 0:
        return None if inner is None else point
    names = list(range(len(inner)))
    board = board_of(inner, names, len(steps))
    if settle(board, names, len(inner)) is not None:
        return None
    # Along short steps little room has few numbers, and much room has a point: so the search is never long.
    steps = shortened(steps, images_of(inner, board))
    place, low, high = thinnest(inner_rows(rows, point, steps), len(steps))
    for distance in range(2 * (high - low) + 3):
        times = from_middle(low, high, distance)
        if low <= times <= high:
            others = steps[:place] + steps[place + 1:]
            found = search(rows, moved(point, times, steps[place]), others)
            if found is not None:
                return found
    return None


def from_middle(low, high, distance):
    """The numbers around the middle of two, by turns at both sides; there most points lie."""
    middle = (low + high) // 2
    return middle - distance // 2 if distance % 2 == 0 else middle + (distance + 1) // 2


def inner_rows(rows, point, steps):
    """The rows told by numbers of steps from a point, as tight as they can be; None if one fails without steps."""
    inner = []
    for parts, bound in rows:
        shares = [dot(parts, step) for step in steps]
        rest = bound - dot(parts, point)
        common = 0
        for share in shares:
            common = gcd(common, share)
        if common > 0:
            inner.append(([share // common for share in shares], -(-rest // common)))
        elif rest > 0:
            return None
    return inner


def images_of(inner, board):
    """The steps as they look where the amounts of all rows reach about as far."""
    reaches = []
    for name in range(len(inner)):
        row, _ = board.climb_up(name)
        reaches.append(row[0] // board.scale + 2)
    widest = max([int(reach) for reach in reaches])
    scales = [FINE * widest // reach for reach in reaches]
    images = []
    for place in range(board.many):
        images.append([scale * row[0][place] for scale, row in zip(scales, inner)])
    return images


def thinnest(inner, many):
    """The place of the step with the fewest numbers between the ends of inner rows, and the numbers at these ends."""
    names = list(range(len(inner)))
    board = board_of(inner, names, many)
    settle(board, names, len(inner))
    best = None
    for place in range(many):
        top, _ = board.climb_up(-1 - place)
        high = top[0] // board.scale
        bottom, _ = board.climb_down(-1 - place)
        low = -(bottom[0] // board.scale)
        if best is None or high - low < best[2] - best[1]:
            best = (place, low, high)
    return best
