"""Generations, middles, tips and halves of blocks, [22]."""

import unittest

from tools import (LOW, PLANE, R0, R1, TINY, WRONG_BLOCKS, check_parameters, oracle_blocks, oracle_halves)
from wholefaces.halving import generation_in, halves_of, middle_of, tips_in
from wholefaces.rings import whole_ring
from wholefaces.seats import generation_of, tips_of

CASES = (((2, 0), [(0, 0), (-1, 3)]), ((2, 3), [(0, 0), (-1, 0)]), ((2, 2), [(9999, -9999)]), ((3, 0), [(0, 1, -1)]),
         ((3, 2), [(0, 0, 0), (-1, 0, 1)]), ((3, 1), [(5000, -5001, 77)]))


class HalvingTest(unittest.TestCase):

    def test_examples(self):
        self.assertEqual(middle_of(PLANE, LOW), (2, 0))
        self.assertEqual(halves_of(PLANE, R1), (((0, 0), (4, 0), (2, 2)), ((4, 0), (4, 4), (2, 2))))

    def test_all_blocks(self):
        for space, cubes in CASES:
            dims, rounds = space
            for block, (generation, _, _, _) in oracle_blocks(space, cubes).items():
                self.assertEqual(generation_in(space, block), generation)
                k = dims - generation % dims
                self.assertEqual(tips_in(space, block), (block[0], block[k]))
                if generation == dims * rounds:
                    for function in (middle_of, halves_of):
                        with self.assertRaises(ValueError):
                            function(space, block)
                    continue
                middle = tuple((a + b) // 2 for a, b in zip(block[0], block[k]))
                self.assertEqual(middle_of(space, block), middle)
                self.assertEqual(halves_of(space, block), oracle_halves(dims, block, generation))
                self.assertEqual(generation_of(space, middle), generation)
                self.assertEqual(tips_of(space, middle), tips_in(space, block))
                self.assertIn(block, whole_ring(space, middle))

    def test_fine_spaces(self):
        for dims in (2, 3):
            space = (dims, 8)
            block = ((0, 0, 0)[:dims], (256, 0, 0)[:dims], (256, 256, 0)[:dims], (256, 256, 256)[:dims])[:dims + 1]
            for generation in range(8 * dims):
                self.assertEqual(generation_in(space, block), generation)
                block = halves_of(space, block)[generation % 2]
            self.assertEqual(generation_in(space, block), 8 * dims)
            check_parameters(self, tips_in, [("space", space), ("block", block)], {})
            with self.assertRaises(ValueError):
                middle_of(space, block)

    def test_parameters(self):
        good = [("space", PLANE), ("block", R1)]
        for function in (generation_in, tips_in):
            check_parameters(self, function, good, {"block": WRONG_BLOCKS})
        top = oracle_halves(2, TINY, 3)
        for function in (middle_of, halves_of):
            check_parameters(self, function, good, {"block": WRONG_BLOCKS + top})
            check_parameters(self, function, [("space", PLANE), ("block", TINY)], {"block": (R0 + R1,)})
            check_parameters(self, function, [("space", (2, 1)), ("block", ((0, 0), (2, 0), (2, 2)))], {"block": (R0, R1)})


if __name__ == "__main__":
    unittest.main()
