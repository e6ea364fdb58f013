"""Weights and carriers, [24]."""

import random
import unittest
from fractions import Fraction
from math import gcd

from tools import R1, WRONG_PLACES, check_parameters, fractions_of, oracle_weights, pair_of
from wholefaces.measures import is_flat
from wholefaces.places import place_of
from wholefaces.weights import blend, carrier_in, holds, weights_in

BODIES = (R1, ((4, 4), (0, 0), (4, 0)), ((-3, 7), (10, 2), (0, -5)), ((10 ** 6, 0), (0, 10 ** 6), (-10 ** 6, -10 ** 6)),
          ((0, 0, 0), (2, 0, 0), (2, 2, 0), (2, 2, 2)), ((1, 5, -3), (-7, 0, 2), (4, 4, 4), (0, -9, 1)),
          ((1, 5, -3), (4, 4, 4), (-7, 0, 2), (0, -9, 1)))


def places_for(body, rolls):
    """Some places in, on and out of a body."""
    dims = len(body) - 1
    places = [corner + (1,) for corner in body]
    for k in range(40):
        shares = [rolls.choice((0, 0, 1, 2, 3, 7, -1)) for _ in body]
        if sum(shares) > 0:
            numbers = tuple(sum(s * corner[i] for s, corner in zip(shares, body)) for i in range(dims))
            places.append(place_of((dims, 0), numbers, sum(shares)))
        numbers = tuple(rolls.randrange(-20, 20) for _ in range(dims))
        places.append(place_of((dims, 0), numbers, rolls.choice((1, 2, 5))))
    return places


class WeightsTest(unittest.TestCase):

    def test_examples(self):
        self.assertEqual(weights_in(R1, (0, 4, 1)), (1, -1, 1, 1))
        self.assertEqual(blend(R1, (3, 0, 1, 4)), (1, 1, 1))
        self.assertEqual(carrier_in(R1, (1, 1, 1)), (((0, 0), (3, 4)), ((4, 4), (1, 4))))
        self.assertIs(holds(R1, (1, 1, 1)), True)
        self.assertIs(holds(R1, (0, 4, 1)), False)
        self.assertIsNone(carrier_in(R1, (0, 4, 1)))

    def test_weights(self):
        rolls = random.Random(3)
        for body in BODIES:
            for place in places_for(body, rolls):
                weights = weights_in(body, place)
                expected = oracle_weights(body, place)
                self.assertEqual([Fraction(n, weights[-1]) for n in weights[:-1]], expected)
                self.assertEqual((gcd(*weights), sum(weights[:-1])), (1, weights[-1]))
                self.assertGreaterEqual(weights[-1], 1)
                self.assertEqual(blend(body, weights), place)
                inside = all(share >= 0 for share in expected)
                self.assertIs(holds(body, place), inside)
                pairs = sorted((corner, pair_of(share)) for corner, share in zip(body, expected) if share > 0)
                self.assertEqual(carrier_in(body, place), tuple(pairs) if inside else None)

    def test_corners(self):
        for body in BODIES:
            for corner in body:
                self.assertEqual(carrier_in(body, corner + (1,)), ((corner, (1, 1)),))

    def test_blend(self):
        for weights in ((1, 0, 0, 1), (-5, 3, 3, 1), (7, -8, 2, 1), (1, 1, 1, 3), (2, 3, 5, 10)):
            for body in BODIES[:4]:
                place = blend(body, weights)
                expected = [sum(Fraction(n, weights[-1]) * corner[i] for n, corner in zip(weights, body)) for i in (0, 1)]
                self.assertEqual(fractions_of(place), expected)
                self.assertEqual(gcd(*place), 1)
                self.assertEqual(weights_in(body, place), weights)
        self.assertFalse(any(is_flat(body) for body in BODIES))

    def test_parameters(self):
        for function in (weights_in, holds, carrier_in):
            check_parameters(self, function, [("body", R1), ("place", (1, 1, 1))], {"place": WRONG_PLACES})
            check_parameters(self, function, [("body", BODIES[4]), ("place", (1, 1, 1, 2))], {"place": ((1, 1, 1),)})
        wrong = (None, True, 1, [3, 0, 1, 4], (3, 0, 1), (3, 0, 1, 0, 4), (3, 0, 1, 5), (6, 0, 2, 8), (-3, 0, -1, -4),
                 (0, 0, 0, 0), (3, True, 0, 4), (1, 0, 0, True), (True, 0, 0, 1), ("3", 0, 1, 4), ((3, 0, 1), 4))
        check_parameters(self, blend, [("body", R1), ("weights", (3, 0, 1, 4))], {"weights": wrong})
        good = [("body", BODIES[4]), ("weights", (1, 1, -1, 1, 2))]
        check_parameters(self, blend, good, {"weights": ((3, 0, 1, 4), (1, 0, 0, 1))})


if __name__ == "__main__":
    unittest.main()
