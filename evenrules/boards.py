"""Boards: the slacks of tests and the unknowns, told in whole numbers by a few of the slacks.

A slack is what an amount has above its bound. The variables at the sides of a board are 0 at its corner; a row
[own, share, share, ..] tells `scale` times another variable: its own part, and its share of each one at the sides.
A test is named by its index, the unknown with the index u by -1 - u.
"""

GOAL = -100


class Board:
    """Rows that go from corner to corner; ahead of all tests the unknowns are at the sides."""

    def __init__(self, many):
        self.many = many
        self.scale = 1
        self.sides = [-1 - at for at in range(many)]
        self.rows = {}
        # Of each side that stays 0: the opposite of its test.
        self.fixed = {}

    def copied(self):
        """A board of its own with the same rows; a row itself never changes."""
        other = Board(self.many)
        other.scale = self.scale
        other.sides = list(self.sides)
        other.rows = dict(self.rows)
        other.fixed = dict(self.fixed)
        return other

    def row_of(self, name):
        """The row of a variable, also of one at the sides."""
        if name in self.rows:
            return self.rows[name]
        place = self.sides.index(name)
        return [self.scale if at == place + 1 else 0 for at in range(self.many + 1)]

    def enter(self, name, parts, bound):
        """Adds the slack of a test under a name."""
        row = [-bound * self.scale] + [0] * self.many
        for at, part in enumerate(parts):
            if part != 0:
                row = [own + part * its for own, its in zip(row, self.row_of(-1 - at))]
        self.rows[name] = row

    def begin(self, rows, names):
        """Enters tests of which the first ones tell each unknown's least number; these come to the sides at once."""
        self.sides = list(names[:self.many])
        least = [rows[name][1] for name in self.sides]
        for name in names[self.many:]:
            parts, bound = rows[name]
            own = -bound
            for part, number in zip(parts, least):
                own = own + part * number
            self.rows[name] = [own, *parts]
        for place, name in enumerate(self.sides):
            self.rows[-1 - place] = [least[place], *rows[name][0]]

    def forget_unknowns(self, at):
        """Takes away the rows of all unknowns but the one with this index; they tell nothing to the others."""
        for place in range(self.many):
            if place != at and -1 - place in self.rows:
                del self.rows[-1 - place]

    def swap(self, name, place):
        """The variable of a row and the side at a place, of which the row has a share, change their roles."""
        row = self.rows.pop(name)
        spot, scale, sign = place + 1, self.scale, 1
        if row[spot] < 0:
            row, sign = [-share for share in row], -1
        lead = row[spot]
        for other in list(self.rows):
            old = self.rows[other]
            factor = old[spot]
            if factor == 0:
                if lead != scale:
                    self.rows[other] = [own * lead // scale for own in old]
                continue
            # The division leaves nothing: all numbers of a board are determinants of the parts and bounds.
            new = [(own * lead - factor * its) // scale for own, its in zip(old, row)]
            new[spot] = factor * sign
            self.rows[other] = new
        turned = [-share for share in row]
        turned[spot] = scale * sign
        self.rows[self.sides[place]] = turned
        self.sides[place] = name
        self.scale = lead

    def free_unknowns(self):
        """Takes the unknowns from the sides, but for those of which no slack has a share."""
        for place in range(self.many):
            for name in list(self.rows):
                if self.sides[place] < 0 and name >= 0 and self.rows[name][place + 1] != 0:
                    self.swap(name, place)

    def rising(self, row):
        """The place of the side with the least name that raises a row; None if none does."""
        # Always the least name: otherwise the way could lead round and round at one corner.
        best = None
        for place, name in enumerate(self.sides):
            if row[place + 1] > 0 and name >= 0 and name not in self.fixed:
                if best is None or name < self.sides[best]:
                    best = place
        return best

    def blocking(self, place):
        """The slack from 0 on that first comes to 0 while the side at a place grows; None if none does."""
        best, best_own, best_fall = None, 0, 0
        for name, row in self.rows.items():
            own, fall = row[0], -row[place + 1]
            if name < 0 or own < 0 or fall <= 0:
                continue
            later = own * best_fall - best_own * fall
            if best is None or later < 0 or (later == 0 and name < best):
                best, best_own, best_fall = name, own, fall
        return best

    def lift(self, name):
        """Whether a slack can come to 0 or more while none that is there falls below 0; goes to such a corner."""
        # A variable at the sides is 0 already.
        while name in self.rows and self.rows[name][0] < 0:
            row = self.rows[name]
            place = self.rising(row)
            if place is None:
                return False
            held = self.blocking(place)
            if held is None or self.comes_first(row, self.rows[held], place):
                held = name
            self.swap(held, place)
        return True

    def comes_first(self, row, other, place):
        """Whether a row below 0 comes to 0 no later than a falling one does, while the side at a place grows."""
        return other[0] * row[place + 1] >= row[0] * other[place + 1]

    def climb(self, row):
        """Goes to a corner where a row is greatest. Returns the row there, and the place of a side if it has no end."""
        self.rows[GOAL] = row
        place = self.rising(row)
        while place is not None:
            held = self.blocking(place)
            if held is None:
                break
            self.swap(held, place)
            place = self.rising(self.rows[GOAL])
        return self.rows.pop(GOAL), place

    def climb_up(self, name):
        """As climb, for a variable."""
        return self.climb(self.row_of(name))

    def climb_down(self, name):
        """As climb, for a variable times -1."""
        return self.climb([-share for share in self.row_of(name)])

    def weigh(self, row, many):
        """The weights of so many tests that take away from a row all that it has of the sides."""
        weights = [0] * many
        for name, share in zip(self.sides, row[1:]):
            if share > 0:
                weights[self.fixed[name]] = share
            elif share < 0:
                weights[name] = -share
        return weights

    def tell(self, name, above, equal):
        """Fixes the slack of a test at so much; the two tests that tell this are named equal and equal + 1."""
        self.climb_down(name)
        own, *shares = self.row_of(name)
        self.rows[equal] = [own - above * self.scale, *shares]
        # Where the slack is least it is not above what it shall be, and can be lifted to it.
        self.lift(equal)
        self.fix(equal, equal + 1)

    def fix(self, name, other):
        """The slack of a test, 0 at the corner as that of the opposite test, comes to the sides and stays 0."""
        if name in self.rows:
            self.swap(name, self.first_share(self.rows[name]))
        if other in self.rows:
            del self.rows[other]
        self.fixed[name] = other

    def first_share(self, row):
        """The first place of a side that is not fixed and of which a row has a share; None if there is none."""
        for place, side in enumerate(self.sides):
            if row[place + 1] != 0 and side not in self.fixed:
                return place
        return None

    def is_tied(self, name):
        """Whether a variable has no share of an unknown that is at the sides, where all tests leave it free."""
        row = self.row_of(name)
        return all([side >= 0 or share == 0 for side, share in zip(self.sides, row[1:])])

    def way(self, place):
        """How the unknowns change as the side at a place grows."""
        return [self.row_of(-1 - at)[place + 1] for at in range(self.many)]


def board_of(rows, names, many):
    """The board of the tests with these names: rows are pairs of parts and bound."""
    board = Board(many)
    if begins_with_units(rows, names, many):
        board.begin(rows, names)
        return board
    for name in names:
        board.enter(name, rows[name][0], rows[name][1])
    board.free_unknowns()
    return board


def begins_with_units(rows, names, many):
    """Whether the first tests are those that each unknown is at least a bound, in the order of the unknowns."""
    if len(names) < many:
        return False
    for place in range(many):
        parts = rows[names[place]][0]
        if parts[place] != 1 or parts.count(0) != many - 1:
            return False
    return True


def settle(board, names, many):
    """Goes to a corner that keeps all tests, and returns None; or returns so many weights of a sum that none does."""
    for name in names:
        if not board.lift(name):
            row = board.rows[name]
            weights = board.weigh(row, many)
            weights[name] += board.scale
            return weights
    return None
