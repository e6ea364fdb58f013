"""Measures, [25] and (G1)."""

import unittest
from itertools import permutations, product

from tools import R1, grid, oracle_blocks
from wholefaces.measures import is_flat, measure_of


def oracle_measure(body):
    """The size of the determinant, by the sum over all permutations."""
    dims = len(body) - 1
    rows = [[a - b for a, b in zip(corner, body[0])] for corner in body[1:]]
    total = 0
    for order in permutations(range(dims)):
        term = 1
        for i in range(dims):
            term *= rows[i][order[i]]
            for j in range(i):
                term *= 1 if order[j] < order[i] else -1
        total += term
    return abs(total)


class MeasuresTest(unittest.TestCase):

    def test_examples(self):
        self.assertEqual(measure_of(R1), 16)
        self.assertEqual(measure_of(body=R1), 16)
        self.assertIs(is_flat(R1), False)

    def check(self, body):
        expected = oracle_measure(body)
        for other in permutations(body):
            self.assertEqual(measure_of(other), expected)
            self.assertIs(is_flat(other), expected == 0)

    def test_bodies(self):
        for body in product(grid(2, -1, 1), repeat=3):
            self.check(body)
        points = ((0, 0, 0), (1, 0, 0), (0, 2, 0), (1, 1, -3), (2, 2, 2), (1000, -1000, 7), (-999999, 5, 10 ** 6))
        for body in product(points, repeat=4):
            if list(body) == sorted(body):
                self.check(body)

    def test_flat(self):
        for body in (((0, 0), (0, 0), (0, 0)), ((0, 0), (1, 1), (2, 2)), ((5, 5), (0, 1), (5, 5)),
                     ((0, 0, 0), (1, 0, 0), (0, 1, 0), (1, 1, 0)), ((1, 2, 3),) * 4):
            self.assertIs(is_flat(body), True)
            self.assertEqual(measure_of(body), 0)
        self.assertIs(is_flat(body=R1), False)

    def test_blocks(self):
        for space, cubes in (((2, 2), [(0, 0), (-3, 100)]), ((3, 1), [(0, 0, 0), (-3, 100, 7)])):
            for block, (generation, _, _, _) in oracle_blocks(space, cubes).items():
                self.assertEqual(measure_of(block), 2 ** (space[0] * space[1]) // 2 ** generation)


if __name__ == "__main__":
    unittest.main()
