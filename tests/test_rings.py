"""Whole rings and needs, [18], [20] and (G1)."""

import unittest
from itertools import permutations, product

from tools import PLANE, WRONG_POINTS, check_parameters, grid, oracle_blocks, oracle_generation
from wholefaces.rings import whole_needs, whole_ring
from wholefaces.seats import grain_of, open_of, tips_of


def told_ring(space, point):
    """The whole ring in its sequence, by the words of [6]."""
    dims = space[0]
    grain, opened = grain_of(space, point), open_of(space, point)
    first, last = tips_of(space, point)
    others = [i for i in range(dims) if i not in opened]
    ring = []
    for order in permutations(opened):
        for rest in permutations(others):
            for signs in product((1, -1), repeat=len(rest)):
                at = list(first)
                block = [tuple(at)]
                for i in order:
                    at[i] += 2 * grain if last[i] > first[i] else -2 * grain
                    block.append(tuple(at))
                at = list(point)
                for i, sign in zip(rest, signs):
                    at[i] += sign * grain
                    block.append(tuple(at))
                ring.append(tuple(block))
    return tuple(ring)


class RingsTest(unittest.TestCase):

    def test_examples(self):
        self.assertEqual(whole_needs(PLANE, (2, 1)), ((2, 2), (2, 0), (1, 1), (3, 1)))
        self.assertEqual(whole_ring((3, 1), (1, 0, 0))[5], ((0, 0, 0), (2, 0, 0), (1, 0, 1), (1, -1, 1)))
        self.assertEqual(whole_ring(PLANE, (2, 0)), (((0, 0), (4, 0), (2, 2)), ((0, 0), (4, 0), (2, -2))))
        self.assertEqual(whole_ring(PLANE, (2, 2)), (((0, 0), (4, 0), (4, 4)), ((0, 0), (0, 4), (4, 4))))
        self.assertEqual(whole_needs(PLANE, (2, 2)), ())
        self.assertEqual(whole_needs(PLANE, (2, 0)), ((2, -2), (2, 2)))

    def check_rings(self, space, cubes, inner):
        """inner tells of a point whether all its ring comes of the cubes."""
        dims, rounds = space
        middles = {}
        for block, (generation, _, _, _) in oracle_blocks(space, cubes).items():
            if generation < dims * rounds:
                k = dims - generation % dims
                middle = tuple((a + b) // 2 for a, b in zip(block[0], block[k]))
                self.assertEqual(oracle_generation(space, middle), generation)
                middles.setdefault(middle, set()).add(block)
        for middle, blocks in middles.items():
            ring = whole_ring(space, middle)
            self.assertEqual(ring, told_ring(space, middle))
            self.assertLessEqual(blocks, set(ring))
            if inner(middle):
                self.assertEqual(blocks, set(ring))
            many = len(open_of(space, middle))
            self.assertEqual(len(set(ring)), 2 if dims == 2 else {3: 6, 2: 4, 1: 8}[many])
            self.check_needs(space, middle, ring)

    def check_needs(self, space, point, ring):
        generation = oracle_generation(space, point)
        corners = {corner for block in ring for corner in block}
        news = sorted((oracle_generation(space, c), c) for c in corners if oracle_generation(space, c) >= 0)
        needs = whole_needs(space, point)
        self.assertEqual(needs, tuple(c for _, c in news))
        told = [g for g, _ in news]
        self.assertTrue(all(g < generation for g in told))
        self.assertTrue(generation == 0 or generation - 1 in told)

    def test_rings_are_the_blocks_round_a_point(self):
        self.check_rings((2, 3), list(product((-2, -1, 0, 1), repeat=2)), lambda p: all(-15 < n < 15 for n in p))
        self.check_rings((2, 1), list(product((-1, 0), repeat=2)), lambda p: all(-2 < n < 2 for n in p))
        self.check_rings((3, 1), list(product((-1, 0), repeat=3)), lambda p: all(-2 < n < 2 for n in p))
        self.check_rings((3, 2), [(0, 0, 0), (0, 0, 1)], lambda p: all(0 < n < 4 for n in p))

    def test_far(self):
        for space in ((2, 8), (3, 8)):
            for point in ((10 ** 6 - 1, -10 ** 6 + 3, 64), (-10 ** 6 + 32, 160, -64), (128, 0, 0), (-256, 7, 256)):
                point = point[:space[0]]
                self.assertEqual(whole_ring(space, point), told_ring(space, point))

    def test_all_near(self):
        for space in ((2, 1), (3, 1)):
            for point in grid(space[0], -3, 3):
                if oracle_generation(space, point) >= 0:
                    self.assertEqual(whole_ring(space, point), told_ring(space, point))

    def test_parameters(self):
        for function in (whole_ring, whole_needs):
            wrong = {"point": WRONG_POINTS + ((4, 8), (0, 0))}
            check_parameters(self, function, [("space", PLANE), ("point", (6, 2))], wrong)
            with self.assertRaises(ValueError):
                function((3, 0), (1, 2, 3))


if __name__ == "__main__":
    unittest.main()
