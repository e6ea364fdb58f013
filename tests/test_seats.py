"""Grains, levels, generations, seats and tips, [17] and [4]."""

import unittest
from itertools import product

from tools import PLANE, WRONG_POINTS, check_parameters, grid, oracle_generation
from wholefaces.seats import generation_of, grain_of, level_of, open_of, seat_corners, seat_of, tips_of

FUNCTIONS = (grain_of, open_of, level_of, seat_of, tips_of, seat_corners)
SPACES = (((2, 1), -3, 3), ((2, 2), -9, 9), ((2, 3), -9, 9), ((3, 1), -3, 3), ((3, 2), -5, 5))


class SeatsTest(unittest.TestCase):

    def test_examples(self):
        self.assertEqual((grain_of(PLANE, (0, -2)), open_of(PLANE, (0, -2))), (2, (1,)))
        self.assertEqual(level_of(PLANE, (3, 4)), 1)
        self.assertEqual([generation_of(PLANE, point) for point in ((0, -2), (3, 4), (8, 4))], [1, 3, -1])
        self.assertEqual(seat_of(PLANE, (6, 2)), ((4, 0), (8, 4)))
        self.assertEqual(tips_of(PLANE, (6, 2)), ((8, 0), (4, 4)))
        self.assertEqual(seat_corners(PLANE, (0, -2)), ((0, -4), (0, 0)))
        self.assertEqual((grain_of(PLANE, (2, 2)), level_of(PLANE, (2, 2)), generation_of(PLANE, (2, 2))), (2, 0, 0))
        self.assertEqual(tips_of(PLANE, (2, 2)), ((0, 0), (4, 4)))
        self.assertEqual(tips_of(PLANE, (2, 0)), ((0, 0), (4, 0)))

    def check_point(self, space, point):
        dims, rounds = space
        unit = 2 ** rounds
        grain = grain_of(space, point)
        self.assertTrue(all(number % grain == 0 for number in point))
        self.assertTrue(any(number % (2 * grain) != 0 for number in point))
        opened = open_of(space, point)
        self.assertEqual(opened, tuple(i for i in range(dims) if (point[i] // grain) % 2 == 1))
        level = level_of(space, point)
        self.assertEqual(unit // 2 ** level, 2 * grain)
        self.assertEqual(generation_of(space, point), oracle_generation(space, point))
        rows = [(n - grain, n + grain) if i in opened else (n,) for i, n in enumerate(point)]
        corners = sorted(product(*rows))
        self.assertEqual(seat_corners(space, point), tuple(corners))
        self.assertEqual(seat_of(space, point), (corners[0], corners[-1]))
        first = [c for c in corners if all((c[i] // (2 * grain)) % 2 == 0 for i in opened)]
        last = [c for c in corners if all((c[i] // (2 * grain)) % 2 == 1 for i in opened)]
        self.assertEqual((len(first), len(last)), (1, 1))
        self.assertEqual(tips_of(space, point), (first[0], last[0]))

    def test_all_near(self):
        for space, low, high in SPACES:
            for point in grid(space[0], low, high):
                if oracle_generation(space, point) == -1:
                    self.assertEqual(generation_of(space, point), -1)
                else:
                    self.check_point(space, point)

    def test_far_and_fine(self):
        for space in ((2, 8), (3, 8), (2, 5)):
            for step in (0, 1, 6, 100, 128, -77):
                for base in (10 ** 6 - 200, -10 ** 6, -300, 0):
                    point = (base + step, base, -base)[:space[0]]
                    if oracle_generation(space, point) != -1:
                        self.check_point(space, point)

    def test_each_seat_has_one_point(self):
        space = (2, 2)
        seats = {}
        for point in grid(2, -8, 8):
            if oracle_generation(space, point) != -1:
                self.assertNotIn(seat_of(space, point), seats)
                seats[seat_of(space, point)] = point
        for h in (2, 4):
            for x, y in product(range(-4, 4, h), repeat=2):
                for lows, highs in (((x, y), (x + h, y + h)), ((x, y), (x, y + h)), ((x, y), (x + h, y))):
                    self.assertIn((lows, highs), seats)

    def test_no_point_is_new(self):
        for dims in (2, 3):
            for point in ((0, 0, 0)[:dims], (3, -5, 1)[:dims]):
                self.assertEqual(generation_of((dims, 0), point), -1)
                for function in FUNCTIONS:
                    check_parameters(self, function, [("space", (dims, 1)), ("point", (1, 0, 0)[:dims])], {"point": ((2, 0, 0)[:dims],)})
                    with self.assertRaises(ValueError):
                        function((dims, 0), point)

    def test_parameters(self):
        good = [("space", PLANE), ("point", (6, 2))]
        for function in FUNCTIONS:
            check_parameters(self, function, good, {"point": WRONG_POINTS + ((4, 8), (0, 0), (-4, 4))})
        check_parameters(self, generation_of, good, {"point": WRONG_POINTS})


if __name__ == "__main__":
    unittest.main()
