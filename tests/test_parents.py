"""Blocks and those of which they come, [23] and [30]."""

import unittest
from itertools import permutations, product

from tools import (LOW, PLANE, R0, R1, TINY, WRONG_BLOCKS, WRONG_NUMBERS, check_parameters, deep, grid, oracle_blocks,
                   oracle_roots)
from wholefaces.parents import (ancestor_of, block_at, comes_of, is_block, ordered, own_cube, parent_of, path_of,
                                root_of)

CASES = (((2, 0), [(0, 0), (-1, 3)]), ((2, 3), [(0, 0), (-1, 0)]), ((2, 2), [(9999, -9999)]), ((3, 0), [(0, 1, -1)]),
         ((3, 1), [(0, 0, 0), (-1, 0, 1), (5000, -5001, 77)]))
WRONG_PATHS = (None, True, 0, 1, "2", "0 1", "01a", ["0"], ("0", "1"), "00000", "010101010101", b"01")


class ParentsTest(unittest.TestCase):

    def test_examples(self):
        self.assertIs(is_block(PLANE, ((4, 0), (0, 0), (2, 2))), False)
        self.assertEqual(path_of(PLANE, TINY), "011")
        self.assertEqual(block_at(PLANE, R1, "01"), ((4, 0), (2, 0), (2, 2)))
        self.assertEqual(parent_of(PLANE, TINY), ((4, 0), (2, 0), (2, 2)))
        self.assertEqual(ancestor_of(PLANE, TINY, 1), LOW)
        self.assertEqual(ordered(PLANE, ((2, 2), (4, 0), (0, 0))), LOW)
        self.assertEqual(own_cube(PLANE, TINY), (2, 0))

    def check_block(self, space, block, told, blocks):
        generation, root, path, parent = told
        self.assertIs(is_block(space, block), True)
        self.assertEqual(root_of(space, block), root)
        self.assertEqual(path_of(space, block), path)
        self.assertEqual(block_at(space, root, path), block)
        self.assertEqual(parent_of(space, block), parent)
        self.check_cube(space, block, generation)
        ancestor = block
        for above in range(generation, -1, -1):
            self.assertEqual(ancestor_of(space, block, above), ancestor)
            self.assertIs(comes_of(space, block, ancestor), True)
            self.assertIs(comes_of(space, ancestor, block), above == generation)
            ancestor = blocks[ancestor][3]

    def check_cube(self, space, block, generation):
        size = 2 ** space[1] // 2 ** (generation // space[0])
        low = own_cube(space, block)
        self.assertTrue(all(number % size == 0 for number in low))
        for corner in block:
            self.assertTrue(all(a <= n <= a + size for a, n in zip(low, corner)))

    def test_all_blocks(self):
        for space, cubes in CASES:
            blocks = oracle_blocks(space, cubes)
            for block, told in blocks.items():
                self.check_block(space, block, told, blocks)

    def test_fine_spaces(self):
        for dims in (2, 3):
            space = (dims, 8)
            for cube in ((0, 0, 0)[:dims], (-1, 3905, -3906)[:dims]):
                root = oracle_roots(space, cube)[1]
                for path in ("", "1", "01" * (4 * dims), "1" * (8 * dims), "0" * (8 * dims)):
                    block = block_at(space, root, path)
                    self.assertEqual((root_of(space, block), path_of(space, block)), (root, path))
                    self.check_cube(space, block, len(path))
                    self.assertEqual(ancestor_of(space, block, 0), root)

    def test_comes_of(self):
        blocks = oracle_blocks(PLANE, [(0, 0), (1, 0)])
        for block, told in list(blocks.items())[::3]:
            for other, told_other in blocks.items():
                expected = told[1] == told_other[1] and told[2].startswith(told_other[2])
                self.assertIs(comes_of(PLANE, block, other), expected)

    def test_ordered(self):
        for space, cubes in (((2, 2), [(0, 0), (1, -1)]), ((3, 1), [(0, 0, 0)])):
            for block in oracle_blocks(space, cubes):
                for body in permutations(block):
                    self.assertEqual(ordered(space, body), block)
                    self.assertIs(is_block(space, body), body == block)

    def test_what_is_no_block(self):
        blocks = oracle_blocks((2, 1), list(product((-2, -1, 0, 1), repeat=2)))
        points = grid(2, -1, 3)
        for body in product(points, repeat=3):
            self.assertIs(is_block((2, 1), body), body in blocks)
        for body in product(points, repeat=3):
            if body[0] <= body[1] <= body[2]:
                found = [block for block in permutations(body) if block in blocks]
                self.assertEqual(ordered((2, 1), body), found[0] if found else None)
        blocks = oracle_blocks((3, 1), list(product((-1, 0, 1), repeat=3)))
        for block in list(blocks)[::5]:
            for k in range(4):
                for step in product((-1, 0, 1), repeat=3):
                    moved = list(block)
                    moved[k] = tuple(a + b for a, b in zip(block[k], step))
                    if all(-1 <= n <= 3 for n in moved[k]):
                        self.assertIs(is_block((3, 1), tuple(moved)), tuple(moved) in blocks)
        self.assertIsNone(ordered((3, 1), ((0, 0, 0),) * 4))
        for size in (3, 5, 6, 7, 16, 32):
            self.assertIs(is_block((2, 3), ((0, 0), (size, 0), (size, size))), False)
            self.assertIs(is_block((3, 3), ((0, 0, 0), (size, 0, 0), (size, size, 0), (size, size, size))), False)
        for thing in WRONG_BLOCKS + (deep(R0, 27), R0 + R1):
            self.assertIs(is_block(PLANE, thing), False)

    def test_parameters(self):
        good = [("space", PLANE), ("block", TINY)]
        for function in (root_of, path_of, parent_of, own_cube):
            check_parameters(self, function, good, {"block": WRONG_BLOCKS})
        wrong = {"root": WRONG_BLOCKS + (LOW, TINY), "path": WRONG_PATHS}
        check_parameters(self, block_at, [("space", PLANE), ("root", R1), ("path", "01")], wrong)
        wrong = {"block": WRONG_BLOCKS, "generation": WRONG_NUMBERS + (4, 10 ** 59)}
        check_parameters(self, ancestor_of, good + [("generation", 1)], wrong)
        wrong = {"block": WRONG_BLOCKS, "other": WRONG_BLOCKS}
        check_parameters(self, comes_of, good + [("other", R1)], wrong)
        bodies = (None, True, (), [(0, 0)] * 3, ((0, 0), (4, 0)), ((0, 0),) * 4, ((0, 0), (4, 0), (2, True)),
                  ((0, 0), (4, 0), [2, 2]), ((0, 0, 0), (4, 0, 0), (2, 2, 0)))
        check_parameters(self, ordered, [("space", PLANE), ("body", ((2, 2), (4, 0), (0, 0)))], {"body": bodies})
        self.assertIs(is_block(thing=TINY, space=PLANE), True)


if __name__ == "__main__":
    unittest.main()
