"""Lengths and angles, [27] and (G1)."""

import math
import unittest
from itertools import combinations, permutations

from tools import PLANE, R1, WRONG_BLOCKS, WRONG_NUMBERS, check_parameters, oracle_blocks
from wholefaces.angles import angles_of, cosine_of, degrees_of, lengths_of

BODIES = (R1, ((0, 0), (3, 0), (0, 4)), ((-5, 2), (7, 7), (1, -9)), ((0, 0), (1, 0), (-5, 1)),
          ((0, 0, 0), (2, 0, 0), (2, 2, 0), (2, 2, 2)), ((0, 0, 0), (1, 1, 0), (1, 0, 1), (0, 1, 1)),
          ((1, 5, -3), (-7, 0, 2), (4, 4, 4), (0, -9, 1)), ((0, 0, 0), (9, 0, 0), (0, 9, 0), (1, 1, 1)))
ANGLES = {2: ((45, 45, 90),) * 2,
          3: ((45, 45, 60, 90, 90, 90), (45, 45, 60, 60, 90, 120), (45, 60, 60, 90, 90, 90))}


def oracle_cosine(body, one, other):
    """The cosine, in floats: along the common face of the two sides, what is left at right angles to it."""
    common = [corner for k, corner in enumerate(body) if k not in (one, other)]
    start, axes = common[0], []
    for corner in common[1:]:
        axes.append([a - b for a, b in zip(corner, start)])
    ways = []
    # The side opposite one has the corner other, and the other way round.
    for corner in (body[other], body[one]):
        way = [float(a - b) for a, b in zip(corner, start)]
        for axis in axes:
            share = sum(a * b for a, b in zip(way, axis)) / sum(a * a for a in axis)
            way = [a - share * b for a, b in zip(way, axis)]
        ways.append(way)
    sizes = [math.sqrt(sum(a * a for a in way)) for way in ways]
    return sum(a * b for a, b in zip(*ways)) / sizes[0] / sizes[1]


class AnglesTest(unittest.TestCase):

    def test_examples(self):
        self.assertEqual(lengths_of(R1), (16, 16, 32))
        self.assertEqual(cosine_of(R1, 2, 1), (1, (1, 2)))
        self.assertEqual([degrees_of(R1, i, j) for i, j in ((0, 1), (0, 2), (2, 1))], [45, 90, 45])

    def test_lengths(self):
        for body in BODIES:
            expected = sorted(sum((a - b) ** 2 for a, b in zip(p, q)) for p, q in combinations(body, 2))
            for other in permutations(body):
                self.assertEqual(lengths_of(other), tuple(expected))

    def test_cosines(self):
        for body in BODIES:
            for one, other in permutations(range(len(body)), 2):
                expected = oracle_cosine(body, one, other)
                sign, square = cosine_of(body, one, other)
                self.assertEqual(math.gcd(*square), 1)
                self.assertAlmostEqual(sign * math.sqrt(square[0] / square[1]), expected)
                self.assertEqual(sign == 0, square == (0, 1))
                degrees = [d for d in (45, 60, 90, 120) if abs(math.cos(math.radians(d)) - expected) < 1e-9]
                self.assertEqual(degrees_of(body, one, other), degrees[0] if degrees else None)

    def test_odd_angles(self):
        # 135 and 30 degrees have the squares of 45 and 60, or none of them.
        self.assertIsNone(degrees_of(((0, 0), (1, 0), (-1, 1)), 1, 2))
        self.assertEqual(cosine_of(((0, 0), (1, 0), (-1, 1)), 1, 2), (-1, (1, 2)))
        self.assertEqual(degrees_of(((0, 0), (1, 0), (0, 7)), 1, 2), 90)
        self.assertIsNone(degrees_of(((0, 0), (3, 0), (0, 4)), 0, 2))

    def test_blocks(self):
        for space, cubes in (((2, 2), [(0, 0), (-9, 3)]), ((3, 1), [(0, 0, 0), (1, -2, 3)]), ((3, 2), [(0, 0, 0)])):
            for block, (generation, _, _, _) in oracle_blocks(space, cubes).items():
                self.assertEqual(angles_of(space, block), ANGLES[space[0]][generation % space[0]])

    def test_parameters(self):
        for function in (cosine_of, degrees_of):
            wrong = {"one": WRONG_NUMBERS + (3, 10 ** 59), "other": WRONG_NUMBERS + (3, 2, 10 ** 59)}
            check_parameters(self, function, [("body", R1), ("one", 2), ("other", 1)], wrong)
            check_parameters(self, function, [("body", BODIES[4]), ("one", 3), ("other", 0)], {"one": (4,), "other": (3, 4)})
        check_parameters(self, angles_of, [("space", PLANE), ("block", R1)], {"block": WRONG_BLOCKS})
        check_parameters(self, lengths_of, [("body", R1)], {})


if __name__ == "__main__":
    unittest.main()
