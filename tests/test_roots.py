"""Roots, [21]."""

import unittest
from itertools import permutations, product

from tools import PLANE, R0, R1, TINY, WRONG_BLOCKS, WRONG_POINTS, check_parameters, deep, oracle_blocks, oracle_roots
from wholefaces.roots import cube_roots, is_root, root_cube

SPACES = ((2, 0), (2, 2), (2, 8), (3, 0), (3, 1), (3, 8))


class RootsTest(unittest.TestCase):

    def test_examples(self):
        self.assertEqual(cube_roots(PLANE, (1, 0)), (((8, 0), (4, 0), (4, 4)), ((8, 0), (8, 4), (4, 4))))
        self.assertIs(is_root(PLANE, ((4, 0), (8, 0), (8, 4))), False)
        self.assertEqual(cube_roots(PLANE, (0, 0)), (R0, R1))

    def test_all_near_and_far(self):
        for space in SPACES:
            for cube in list(product((-2, -1, 0, 1), repeat=space[0])) + [(-3906, 3905, 1)[:space[0]]]:
                roots = cube_roots(space, cube)
                self.assertEqual(roots, tuple(oracle_roots(space, cube)))
                self.assertEqual(list(roots), sorted(set(roots)))
                for root in roots:
                    self.assertIs(is_root(space, root), True)
                    self.assertEqual(root_cube(space, root), cube)

    def test_no_roots(self):
        for space in ((2, 1), (3, 1), (2, 0)):
            for cube in ((0, 0, 0)[:space[0]], (-1, 2, 1)[:space[0]]):
                roots = oracle_roots(space, cube)
                for root in roots:
                    for other in permutations(root):
                        self.assertIs(is_root(space, other), other in roots)
                    for step in product((-1, 0, 1, 2), repeat=space[0]):
                        moved = tuple(tuple(a + b for a, b in zip(corner, step)) for corner in root)
                        even = all(n % 2 ** (space[1] + 1) == 0 for n in step)
                        self.assertIs(is_root(space, moved), even)
        for block, (generation, _, _, _) in oracle_blocks((2, 2), [(0, 0)]).items():
            self.assertIs(is_root(PLANE, block), generation == 0)
            self.assertIs(is_root((2, 1), block), generation == 2)
        for thing in WRONG_BLOCKS + (LOW_TWICE, deep(R0, 27)):
            self.assertIs(is_root(PLANE, thing), False)
        self.assertIs(is_root(space=PLANE, thing=R0), True)
        self.assertIs(is_root(thing=TINY, space=PLANE), False)

    def test_parameters(self):
        check_parameters(self, cube_roots, [("space", PLANE), ("cube", (1, 0))], {"cube": WRONG_POINTS})
        wrong = WRONG_BLOCKS + (TINY, ((4, 0), (8, 0), (8, 4)), ((0, 0), (2, 0), (2, 2)))
        check_parameters(self, root_cube, [("space", PLANE), ("root", R1)], {"root": wrong})


LOW_TWICE = ((0, 0), (4, 0), (4, 0))

if __name__ == "__main__":
    unittest.main()
