"""Gaps and cubes, [19]."""

import unittest
from fractions import Fraction
from itertools import product

from tools import (PLANE, WRONG_NUMBERS, WRONG_PLACES, WRONG_POINTS, check_parameters, fractions_of, grid,
                   oracle_generation)
from wholefaces.gaps import cube_box, cube_of, gap_between, seat_gap
from wholefaces.places import place_of
from wholefaces.seats import seat_of

WRONG_BOXES = (None, True, (), [(0, 0), (4, 4)], ((0, 0),), ((0, 0), (4, 4), (5, 5)), ((0, 0), (4,)), ((0, 0), (4, 4, 4)),
               ((1, 0), (0, 4)), ((0, 5), (4, 4)), ((0, True), (4, 4)), ([0, 0], (4, 4)), ((0,), (1,)), ((), ()),
               ((0, 0, 0, 0), (1, 1, 1, 1)), "ab", (1, 2))


def oracle_gap(one, other):
    """The gap of two boxes: corners are integers, so the least is found over the points of the boxes."""
    rows = [[range(low, high + 1) for low, high in zip(*box)] for box in (one, other)]
    return min(max(abs(a - b) for a, b in zip(p, q)) for p in product(*rows[0]) for q in product(*rows[1]))


class GapsTest(unittest.TestCase):

    def test_examples(self):
        self.assertEqual(gap_between(((0, 0), (4, 4)), ((6, 1), (8, 9))), 2)
        self.assertEqual(seat_gap(PLANE, (2, 2), (6, 6)), 0)
        self.assertEqual(cube_of(PLANE, 1, (0, 5, 2)), (-2, 2))
        self.assertEqual(cube_box(PLANE, 1, (-2, 2)), ((-2, 2), (0, 4)))

    def test_gaps(self):
        boxes = [((x, y), (x + a, y + b)) for x in (-4, 0, 3) for y in (-1, 2) for a in (0, 2) for b in (0, 1, 4)]
        for one in boxes:
            for other in boxes:
                self.assertEqual(gap_between(one, other), oracle_gap(one, other))
        boxes = [((x, y, z), (x + a, y, z + 1)) for x in (-4, 0) for y in (-1, 2) for z in (0, 5) for a in (0, 2)]
        for one in boxes:
            for other in boxes:
                self.assertEqual(gap_between(one, other), oracle_gap(one, other))
        self.assertEqual(gap_between(((5, 5), (5, 5)), ((5, 5), (5, 5))), 0)
        self.assertEqual(gap_between(((-10 ** 6, 0), (-10 ** 6, 0)), ((10 ** 6, 0), (10 ** 6, 0))), 2 * 10 ** 6)

    def test_seat_gaps(self):
        points = [point for point in grid(2, -5, 5) if oracle_generation(PLANE, point) >= 0]
        for point in points[::3]:
            for other in points[::4]:
                told = seat_gap(PLANE, point, other)
                self.assertEqual(told, gap_between(seat_of(PLANE, point), seat_of(PLANE, other)))
        self.assertEqual(seat_gap((3, 1), (1, 1, 1), (1, 1, 7)), 4)
        self.assertEqual(seat_gap((3, 1), (1, 0, 0), (1, 2, 0)), 2)

    def test_cube_of(self):
        for space in ((2, 0), (2, 2), (3, 1)):
            for level in range(space[1] + 1):
                width = 2 ** space[1] // 2 ** level
                for numbers in list(product((-9, -4, 0, 1, 6, 8), repeat=space[0])):
                    for bottom in (1, 2, 3):
                        place = place_of(space, numbers, bottom)
                        rows = []
                        for number in fractions_of(place):
                            multiples = range(-12 // width * width - width, 13, width)
                            rows.append([low for low in multiples if low <= number <= low + width])
                        self.assertEqual(cube_of(space, level, place), min(product(*rows)))
        self.assertEqual(cube_of((2, 8), 0, (0, 256, 1)), (-256, 0))
        self.assertEqual(cube_of((2, 8), 8, (10 ** 6, -10 ** 6, 1)), (10 ** 6 - 1, -10 ** 6 - 1))
        self.assertEqual(cube_of((2, 3), 1, (Fraction(81, 10).numerator, 0, 10)), (8, -4))

    def test_cube_box(self):
        for level, width in ((0, 4), (1, 2), (2, 1)):
            for low in grid(2, -4, 4):
                if all(number % width == 0 for number in low):
                    self.assertEqual(cube_box(PLANE, level, low), (low, (low[0] + width, low[1] + width)))
                else:
                    good = [("space", PLANE), ("level", level), ("low", (0, 0))]
                    check_parameters(self, cube_box, good, {"low": (low,)})
        self.assertEqual(cube_box((3, 0), 0, (1, -1, 0)), ((1, -1, 0), (2, 0, 1)))
        self.assertEqual(cube_box((2, 3), 3, (5, -1)), ((5, -1), (6, 0)))
        good = [("space", (3, 1)), ("level", 1), ("low", (1, 1, 1))]
        check_parameters(self, cube_box, good, {"level": (2, 3)})

    def test_parameters(self):
        good = [("one", ((0, 0), (4, 4))), ("other", ((6, 1), (8, 9)))]
        other = WRONG_BOXES + (((0, 0, 0), (1, 1, 1)),)
        check_parameters(self, gap_between, good, {"one": WRONG_BOXES, "other": other})
        good = [("one", ((0, 0, 0), (4, 4, 4))), ("other", ((6, 1, 1), (8, 9, 9)))]
        check_parameters(self, gap_between, good, {"one": WRONG_BOXES, "other": (((0, 0), (1, 1)),)})
        wrong = WRONG_POINTS + ((0, 0), (4, -8))
        check_parameters(self, seat_gap, [("space", PLANE), ("point", (2, 2)), ("other", (6, 6))],
                         {"point": wrong, "other": wrong})
        levels = WRONG_NUMBERS + (3, 10 ** 59)
        check_parameters(self, cube_of, [("space", PLANE), ("level", 1), ("place", (0, 5, 2))],
                         {"level": levels, "place": WRONG_PLACES})
        check_parameters(self, cube_box, [("space", PLANE), ("level", 1), ("low", (-2, 2))],
                         {"level": levels, "low": WRONG_POINTS + ((-1, 2), (2, 1))})


if __name__ == "__main__":
    unittest.main()
