"""Closed lots and closures, [42] and [7]."""

import unittest

from tools import CUBE, LOW, ODDS, PAIR, SQUARE, check_parameters, deep
from wholefaces.closing import closure_of, greatest_within, is_closed, missing_at
from worlds import OFF_POINT_ROWS, OPEN_LOTS, WRONG_LOTS, worlds


def oracle_missing(world, points):
    """The first point that lacks a need, and the first need that it lacks."""
    for point in world.order(points):
        for need in world.needs[point]:
            if need not in points:
                return point, need
    return None


def oracle_within(world, points):
    """The greatest closed lot within points, by taking away until nothing lacks."""
    lot = set(points)
    while True:
        less = {p for p in lot if all(need in lot for need in world.needs[p])}
        if less == lot:
            return world.order(lot)
        lot = less


class ClosingTest(unittest.TestCase):

    def test_examples(self):
        self.assertEqual(closure_of(SQUARE, ((1, 1),)), ((2, 2), (0, 2), (2, 0), (1, 1)))
        self.assertEqual(closure_of(SQUARE, ()), ())
        self.assertEqual(missing_at(SQUARE, ((1, 1), (2, 0))), ((2, 0), (2, 2)))
        self.assertIs(is_closed(SQUARE, ((2, 2), (2, 0))), True)
        self.assertEqual(greatest_within(SQUARE, ((2, 0), (1, 1), (2, 2))), ((2, 2), (2, 0)))
        self.assertIsNone(missing_at(SQUARE, ()))
        self.assertIsNone(missing_at(SQUARE, ((2, 0), (2, 2), (2, 0))))

    def test_drawn_points(self):
        rolls, made = worlds(421, 40)
        for world in made:
            for _ in range(6):
                points = world.draw_points(rolls, 7)
                closure = world.closure(points)
                self.assertEqual(closure_of(world.solid, points), closure)
                self.assertIs(is_closed(world.solid, closure), True)
                self.assertEqual(closure_of(world.solid, closure), closure)
                some = tuple(rolls.sample(closure, rolls.randrange(len(closure) + 1))) + points
                self.assertEqual(missing_at(world.solid, some), oracle_missing(world, some))
                self.assertEqual(greatest_within(world.solid, some), oracle_within(world, some))
                lot = world.order(some)
                self.assertIs(is_closed(world.solid, lot), world.is_closed(lot))
            self.assertIs(is_closed(world.solid, world.points), True)
            self.assertEqual(greatest_within(world.solid, world.points), world.points)

    def test_a_point_less_or_more(self):
        rolls, made = worlds(422, 24)
        for world in made:
            lot = world.draw_lot(rolls)
            for point in lot[:20]:
                less = tuple(p for p in lot if p != point)
                self.assertIs(is_closed(world.solid, less), world.is_closed(less))
                self.assertEqual(missing_at(world.solid, less), oracle_missing(world, less))
            for point in rolls.sample(world.points, min(10, len(world.points))):
                more = world.order(lot + (point,))
                self.assertIs(is_closed(world.solid, more), world.is_closed(more))

    def test_what_is_no_closed_lot(self):
        for thing in WRONG_LOTS + OPEN_LOTS + (LOW, deep(((2, 2),), 25), ((2, 2),) * 5000, ((2, 2), (2, 0), (0, 2)), ((2.5, 2),)):
            self.assertIs(is_closed(SQUARE, thing), False, thing)
        for thing in ODDS:
            self.assertIs(is_closed(SQUARE, thing), False, thing)
        self.assertIs(is_closed(SQUARE, ()), True)
        self.assertIs(is_closed(PAIR, ((2, 2), (6, 2), (4, 2))), True)
        self.assertIs(is_closed(PAIR, ((2, 2), (4, 2))), False)
        self.assertIs(is_closed(CUBE, ((1, 1, 1), (1, 1, 2), (1, 1, 0))), False)
        self.assertIs(is_closed(thing=((2, 2),), solid=SQUARE), True)

    def test_parameters(self):
        good = [("solid", SQUARE), ("points", ((1, 1), (2, 0), (1, 1)))]
        for function in (missing_at, closure_of, greatest_within):
            check_parameters(self, function, good, {"points": OFF_POINT_ROWS})


if __name__ == "__main__":
    unittest.main()
