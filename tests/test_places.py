"""Places, [15]."""

import unittest
from fractions import Fraction

from tools import (PLANE, WRONG_INTEGERS, WRONG_PLACES, WRONG_POINTS, WRONG_QUOTIENTS, check_parameters, fractions_of,
                   pair_of)
from wholefaces.kinds import is_place
from wholefaces.places import between, mean_place, place_of, point_place

SPACE = (3, 2)
PLACES = ((0, 0, 1), (4, 1, 2), (-3, 5, 7), (1000000, -999999, 1), (1, 1, 1000))


class PlacesTest(unittest.TestCase):

    def test_examples(self):
        self.assertEqual(place_of(PLANE, (6, 2), 4), (3, 1, 2))
        self.assertEqual(point_place(PLANE, (6, 2)), (6, 2, 1))
        self.assertEqual(between(PLANE, (0, 0, 1), (4, 1, 2), (-1, 2)), (-4, -1, 4))
        self.assertEqual(mean_place(PLANE, ((0, 0), (0, 0), (4, 1))), (4, 1, 3))

    def test_place_of(self):
        for numbers in ((0, 0), (6, -4), (-9, 3), (10 ** 6, 0)):
            for bottom in (1, 2, 3, 12, 10 ** 6):
                place = place_of(PLANE, numbers, bottom)
                self.assertTrue(is_place(PLANE, place))
                self.assertEqual(fractions_of(place), [Fraction(number, bottom) for number in numbers])
        self.assertEqual(place_of(SPACE, (2, -4, 6), 8), (1, -2, 3, 4))
        self.assertEqual(place_of(SPACE, (0, 0, 0), 5), (0, 0, 0, 1))
        self.assertEqual(point_place(SPACE, (0, -1, 5)), (0, -1, 5, 1))

    def test_between(self):
        for place in PLACES:
            for other in PLACES:
                for moment in (Fraction(0), Fraction(1), Fraction(1, 3), Fraction(-5, 2), Fraction(7, 4)):
                    told = between(PLANE, place, other, pair_of(moment))
                    self.assertTrue(is_place(PLANE, told))
                    pairs = zip(fractions_of(place), fractions_of(other))
                    self.assertEqual(fractions_of(told), [a + moment * (b - a) for a, b in pairs])
        self.assertEqual(between(SPACE, (0, 0, 0, 1), (1, 1, -1, 2), (1, 2)), (1, 1, -1, 4))

    def test_mean_place(self):
        self.assertEqual(mean_place(PLANE, ((3, -5),)), (3, -5, 1))
        self.assertEqual(mean_place(PLANE, ((3, -5), (3, -5))), (3, -5, 1))
        self.assertEqual(mean_place(PLANE, ((1, 0), (-1, 0))), (0, 0, 1))
        self.assertEqual(mean_place(SPACE, ((1, 0, 0), (0, 1, 0), (0, 0, -1), (0, 0, 0))), (1, 1, -1, 4))

    def test_parameters(self):
        wrong = {"numbers": WRONG_POINTS, "bottom": WRONG_INTEGERS + (0, -1)}
        check_parameters(self, place_of, [("space", PLANE), ("numbers", (6, 2)), ("bottom", 4)], wrong)
        check_parameters(self, point_place, [("space", PLANE), ("point", (6, 2))], {"point": WRONG_POINTS})
        good = [("space", PLANE), ("place", (0, 0, 1)), ("other", (4, 1, 2)), ("moment", (-1, 2))]
        wrong = {"place": WRONG_PLACES, "other": WRONG_PLACES, "moment": WRONG_QUOTIENTS}
        check_parameters(self, between, good, wrong)
        wrong = (None, True, (), [(0, 0)], (0, 0), ((0, 0), (0, True)), ((0, 0), (0, 0, 0)), ((0, 0), [0, 0]), "a")
        check_parameters(self, mean_place, [("space", PLANE), ("points", ((0, 0), (4, 1)))], {"points": wrong})


if __name__ == "__main__":
    unittest.main()
