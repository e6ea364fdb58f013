"""The points that a block holds, [29]."""

import unittest

from tools import (PLANE, R1, WRONG_BLOCKS, WRONG_INTEGERS, check_parameters, grid, oracle_blocks, oracle_generation,
                   oracle_weights)
from wholefaces.heldpoints import held_points

CASES = (((2, 0), (0, 0)), ((2, 2), (0, 0)), ((2, 2), (-1, 1)), ((3, 1), (0, -1, 0)))


def oracle_points(space, block):
    """All points that the block holds, by weights, with their generations."""
    dims = space[0]
    lows = [min(corner[i] for corner in block) for i in range(dims)]
    most = max(max(corner[i] for corner in block) - lows[i] for i in range(dims))
    found = []
    for step in grid(dims, 0, most):
        point = tuple(a + b for a, b in zip(lows, step))
        if all(share >= 0 for share in oracle_weights(block, point + (1,))):
            found.append((oracle_generation(space, point), point))
    return sorted(found)


class HeldPointsTest(unittest.TestCase):

    def test_examples(self):
        self.assertEqual(held_points(PLANE, R1, 0, 2), ((2, 2), (2, 0), (4, 2)))

    def test_ranges(self):
        for space, cube in CASES:
            top = space[0] * space[1]
            for block, (own, _, _, _) in list(oracle_blocks(space, [cube]).items())[::2]:
                points = oracle_points(space, block)
                for low in range(-1, top + 2):
                    for high in range(-2, top + 1):
                        expected = tuple(point for generation, point in points if low <= generation < high)
                        self.assertEqual(held_points(space, block, low, high), expected)
                self.assertEqual(tuple(sorted(block)), tuple(sorted(held_points(space, block, -1, own))))

    def test_empty_ranges(self):
        for low, high in ((0, 0), (-1, -1), (3, 1), (10 ** 40, 4), (0, -10 ** 40), (2, 2)):
            self.assertEqual(held_points(PLANE, R1, low, high), ())
        self.assertEqual(held_points(PLANE, R1, -1, 0), ((0, 0), (4, 0), (4, 4)))

    def test_fine_space(self):
        root = ((0, 0), (256, 0), (256, 256))
        held = held_points((2, 8), root, 0, 10)
        self.assertEqual(held[:3], ((128, 128), (128, 0), (256, 128)))
        self.assertEqual(len(held), 33 * 34 // 2 - 3)
        self.assertEqual(len(held_points((3, 8), ((0, 0, 0), (256, 0, 0), (256, 256, 0), (256, 256, 256)), 0, 9)), 165 - 4)

    def test_parameters(self):
        wrong = {"block": WRONG_BLOCKS, "low": WRONG_INTEGERS + (-2, -10 ** 59), "high": WRONG_INTEGERS + (5, 10 ** 59)}
        check_parameters(self, held_points, [("space", PLANE), ("block", R1), ("low", 0), ("high", 2)], wrong)
        root = ((0, 0, 0), (2, 0, 0), (2, 2, 0), (2, 2, 2))
        good = [("space", (3, 1)), ("block", root), ("low", 0), ("high", 3)]
        check_parameters(self, held_points, good, {"block": (R1,), "high": (4,)})


if __name__ == "__main__":
    unittest.main()
