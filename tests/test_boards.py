"""Boards and grids, on which all papers rest: what must hold at each corner and for each step."""

import random
import unittest

from evenrules.boards import Board, board_of, settle
from evenrules.grids import dot, sorted_out, units, whole_grid
from evenrules.short import shortened
from helping import fractions_keep


def random_rows(many, reach, count):
    return [(tuple(random.randint(-reach, reach) for _ in range(many)), random.randint(-3 * reach, reach))
            for _ in range(count)]


class BoardsTest(unittest.TestCase):

    def check_corner(self, board, rows):
        """All slacks are from 0 on, and are those of the unknowns at the corner."""
        place = [board.row_of(-1 - at)[0] for at in range(board.many)]
        self.assertGreaterEqual(board.scale, 1)
        for name, (parts, bound) in enumerate(rows):
            slack = board.row_of(name)[0]
            self.assertGreaterEqual(slack, 0)
            self.assertEqual(slack, dot(parts, place) - bound * board.scale)

    def check_weights(self, rows, weights, own):
        """Weights from 0 on that leave no unknown, and of the bounds what a row has itself."""
        self.assertTrue(all(weight >= 0 for weight in weights))
        for at in range(len(rows[0][0])):
            self.assertEqual(sum(weight * row[0][at] for weight, row in zip(weights, rows)), 0)
        self.assertEqual(sum(weight * row[1] for weight, row in zip(weights, rows)), -own)

    def check_ends(self, board, rows, name):
        """Climbs up and down from a test's slack, and checks where this leads."""
        row, place = board.climb_up(name)
        self.check_corner(board, rows)
        if place is None:
            weights = board.weigh(row, len(rows))
            weights[name] += board.scale
            self.assertGreaterEqual(weights[name], 1)
            self.check_weights(rows, weights, row[0])
            self.assertEqual(row[0], board.row_of(name)[0])
        else:
            way = board.way(place)
            self.assertTrue(all(dot(parts, way) >= 0 for parts, _ in rows))
            self.assertGreater(dot(rows[name][0], way), 0)
        row, place = board.climb_down(name)
        self.assertIsNone(place)
        self.check_corner(board, rows)
        weights = board.weigh(row, len(rows))
        weights[name] -= board.scale
        self.assertEqual(sum(weight * row[1] for weight, row in zip(weights, rows)), -row[0])

    def test_random_rows(self):
        random.seed(21)
        for _ in range(300):
            many = random.randint(1, 5)
            rows = random_rows(many, random.choice((2, 9, 99)), random.randint(1, 14))
            names = list(range(len(rows)))
            board = board_of(rows, names, many)
            weights = settle(board, names, len(rows))
            if weights is not None:
                own = -sum(weight * row[1] for weight, row in zip(weights, rows))
                self.assertLess(own, 0)
                self.check_weights(rows, weights, own)
                continue
            self.check_corner(board, rows)
            for name in names:
                self.check_ends(board, rows, name)

    def test_tests_that_tell_least_numbers_come_to_the_sides_at_once(self):
        random.seed(24)
        for _ in range(300):
            many = random.randint(1, 5)
            rows = [(tuple(unit), random.randint(-3, 3)) for unit in units(many)]
            rows += random_rows(many, 9, random.randint(0, 9))
            names = list(range(len(rows)))
            board, other = board_of(rows, names, many), Board(many)
            for name in names:
                other.enter(name, *rows[name])
            other.free_unknowns()
            self.assertEqual((board.sides, board.scale), (names[:many], other.scale))
            self.assertEqual((other.sides, board.rows), (board.sides, other.rows))
            # From there on the rows of the other unknowns tell nothing.
            at = random.randrange(many)
            board.forget_unknowns(at)
            self.assertEqual({name for name in board.rows if name < 0}, {-1 - at})
            self.assertEqual(settle(board, names, len(rows)), settle(other, names, len(rows)))
            self.assertEqual(board.sides, other.sides)
            self.assertEqual(board.row_of(-1 - at), other.row_of(-1 - at))

    def test_tests_that_nearly_tell_least_numbers(self):
        for first in ((2, 0, 0), (1, 1, 0), (0, 1, 0), (-1, 0, 0)):
            rows = [(first, 1), ((0, 1, 0), 1), ((0, 0, 1), 1), ((1, 1, 1), 7), ((-1, -2, 3), -9)]
            names = list(range(5))
            board = board_of(rows, names, 3)
            self.assertIsNone(settle(board, names, 5))
            self.check_corner(board, rows)

    def test_settled_as_fractions_tell(self):
        random.seed(22)
        for _ in range(300):
            rows = random_rows(random.randint(1, 3), 4, random.randint(1, 6))
            names = list(range(len(rows)))
            board = board_of(rows, names, len(rows[0][0]))
            self.assertIs(settle(board, names, len(rows)) is None, fractions_keep(rows))

    def test_told_slacks(self):
        random.seed(23)
        for _ in range(200):
            rows = random_rows(2, 9, 6)
            names = list(range(6))
            board = board_of(rows, names, 2)
            if settle(board, names, 6) is not None or board.climb_up(0)[1] is not None or not any(rows[0][0]):
                continue
            most = board.row_of(0)[0] // board.scale
            least = -(board.climb_down(0)[0][0] // board.scale)
            for above in range(least, most + 1):
                other = board.copied()
                other.tell(0, above, 6)
                self.check_corner(other, rows)
                self.assertEqual(other.row_of(0)[0], above * other.scale)
                other.climb_up(1)
                other.climb_down(2)
                self.assertEqual(other.row_of(0)[0], above * other.scale)
            self.check_corner(board, rows)


class GridsTest(unittest.TestCase):

    def test_amounts(self):
        grid = whole_grid(3)
        self.assertEqual(grid.amounts((6, 10, 15)), (0, 1))
        self.assertEqual(grid.amounts((6, -4, 0)), (0, 2))
        self.assertEqual(grid.amounts((0, 0, 0)), (0, 0))
        told = grid.with_told(0, (6, 10, 15), 7)
        self.assertEqual(told.amounts((6, 10, 15)), (7, 0))
        self.assertEqual(told.amounts((12, 20, 30)), (14, 0))
        self.assertEqual(grid.amounts((6, 10, 15)), (0, 1))

    def test_told_grids(self):
        random.seed(24)
        for _ in range(200):
            many = random.randint(1, 5)
            grid, rows = whole_grid(many), []
            for index in range(many):
                parts = tuple(random.randint(-30, 30) for _ in range(many))
                start, gap = grid.amounts(parts)
                if gap > 0:
                    amount = start + gap * random.randint(-3, 3)
                    self.check_odd_sum(grid, rows, parts, start + gap * random.randint(-3, 3) + random.randint(0, gap - 1))
                    grid = grid.with_told(index, parts, amount)
                    rows.append((index, parts, amount))
                for _, own, amount in rows:
                    self.assertEqual(grid.amounts(own), (amount, 0))

    def check_odd_sum(self, grid, rows, parts, amount):
        start, gap = grid.amounts(parts)
        if (amount - start) % gap == 0:
            return
        weights, divisor = grid.odd_sum(9, parts, 10)
        self.assertGreaterEqual(divisor, 2)
        told = [*rows, (9, parts, amount)]
        for at in range(len(parts)):
            self.assertEqual(sum(weights[index] * own[at] for index, own, _ in told) % divisor, 0)
        self.assertNotEqual(sum(weights[index] * told_amount for index, _, told_amount in told) % divisor, 0)

    def test_sorted_out_steps(self):
        random.seed(25)
        for _ in range(200):
            many = random.randint(1, 5)
            parts = [random.randint(-99, 99) for _ in range(many)]
            if any(parts):
                first, *others = sorted_out(parts, units(many))
                self.assertGreater(dot(parts, first), 0)
                self.assertEqual([dot(parts, step) for step in others], [0] * (many - 1))

    def test_short_steps(self):
        self.assertEqual(shortened([[7]], [[7]]), [[7]])
        long = [[1, 0], [1000, 1]]
        self.assertEqual(sorted(map(sum, (map(abs, step) for step in shortened(long, long)))), [1, 1])
        random.seed(26)
        for _ in range(60):
            many = random.randint(2, 5)
            steps = units(many)
            for _ in range(30):
                one, other = random.sample(range(many), 2)
                steps[one] = [own + random.choice((-3, 2)) * its for own, its in zip(steps[one], steps[other])]
            short = shortened(steps, steps)
            # All whole numbers have steps of length 1; these are not much longer.
            self.assertEqual(abs(determinant(steps)) == 1, abs(determinant(short)) == 1)
            self.assertEqual(abs(determinant(steps)), abs(determinant(short)))
            self.assertLessEqual(min(dot(step, step) for step in short), min(dot(step, step) for step in steps))


def determinant(rows):
    if not rows:
        return 1
    return sum((-1) ** at * row[0] * determinant([other[1:] for other in rows[:at] + rows[at + 1:]])
               for at, row in enumerate(rows))


if __name__ == "__main__":
    unittest.main()
