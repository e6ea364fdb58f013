"""The order of points, and the consequences in [20]."""

import random
import unittest

from tools import PLANE, WRONG_POINTS, check_parameters, grid, oracle_generation
from wholefaces.orders import in_order, key_of


class OrdersTest(unittest.TestCase):

    def test_examples(self):
        self.assertEqual(in_order(PLANE, ((2, 0), (0, 0), (2, 2), (-4, 0), (2, 0))), ((-4, 0), (0, 0), (2, 2), (2, 0)))
        self.assertEqual(key_of(PLANE, (2, 0)), (1, (2, 0)))

    def test_keys(self):
        for space in ((2, 0), (2, 3), (3, 2)):
            for point in grid(space[0], -4, 4):
                self.assertEqual(key_of(space, point), (oracle_generation(space, point), point))

    def test_in_order(self):
        rolls = random.Random(1)
        for space in ((2, 0), (2, 2), (3, 2)):
            points = grid(space[0], -5, 5)
            for k in range(30):
                some = tuple(rolls.choice(points) for _ in range(rolls.randrange(12)))
                expected = sorted(set(some), key=lambda point: (oracle_generation(space, point), point))
                self.assertEqual(in_order(space, some), tuple(expected))
        self.assertEqual(in_order(PLANE, ()), ())

    def test_parameters(self):
        check_parameters(self, key_of, [("space", PLANE), ("point", (1, 2))], {"point": WRONG_POINTS})
        wrong = (None, True, [(0, 0)], (0, 0), ((0, 0), (0, True)), ((0, 0), (0, 0, 0)), ((0, 0), None), "a")
        check_parameters(self, in_order, [("space", PLANE), ("points", ((1, 2), (0, 0)))], {"points": wrong})


if __name__ == "__main__":
    unittest.main()
