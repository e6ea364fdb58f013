"""Families, [28] and [30]."""

import unittest
from itertools import product

from tools import (LOW, PLANE, R1, TINY, WRONG_BLOCKS, WRONG_NUMBERS, WRONG_PLACES, check_parameters, oracle_blocks,
                   oracle_weights)
from wholefaces.families import down_to, family_of
from wholefaces.measures import measure_of
from wholefaces.parents import block_at
from wholefaces.places import mean_place, place_of
from wholefaces.weights import carrier_in, holds

CASES = (((2, 0), (0, 0)), ((2, 2), (0, 0)), ((2, 2), (-5001, 77)), ((3, 1), (0, 0, 0)), ((3, 1), (-1, 300, 5)),
         ((3, 0), (0, 0, 1)))


class FamiliesTest(unittest.TestCase):

    def test_examples(self):
        self.assertEqual(down_to(PLANE, R1, (2, 0, 1), 2), ((0, 0), (2, 0), (2, 2)))
        self.assertEqual(family_of(PLANE, R1, 0), (R1,))
        self.assertEqual(family_of(PLANE, R1, 1), (LOW, ((4, 0), (4, 4), (2, 2))))

    def test_families(self):
        for space, cube in CASES:
            blocks = oracle_blocks(space, [cube])
            for block, (own, root, path, _) in blocks.items():
                for generation in range(own, space[0] * space[1] + 1):
                    paths = sorted(told[2] for told in blocks.values()
                                   if told[0] == generation and told[1] == root and told[2].startswith(path))
                    expected = tuple(block_at(space, root, told) for told in paths)
                    family = family_of(space, block, generation)
                    self.assertEqual(family, expected)
                    measures = {measure_of(half) for half in family}
                    self.assertEqual((len(measures), len(family) * min(measures)), (1, measure_of(block)))

    def check_place(self, space, block, own, place):
        for generation in range(own, space[0] * space[1] + 1):
            holding = [half for half in family_of(space, block, generation) if holds(half, place)]
            self.assertEqual(down_to(space, block, place, generation), holding[0])
            self.assertEqual(len({carrier_in(half, place) for half in holding}), 1)

    def test_down_to(self):
        for space, cube in CASES:
            dims = space[0]
            for block, (own, _, _, _) in list(oracle_blocks(space, [cube]).items())[::3]:
                places = [mean_place(space, block), mean_place(space, block[:2]), block[dims] + (1,)]
                for shares in product((0, 1, 2), repeat=dims + 1):
                    if sum(shares) == 3:
                        numbers = tuple(sum(s * c[i] for s, c in zip(shares, block)) for i in range(dims))
                        places.append(place_of(space, numbers, 3))
                for place in places:
                    self.assertTrue(all(share >= 0 for share in oracle_weights(block, place)))
                    self.check_place(space, block, own, place)

    def test_fine_space(self):
        space = (3, 8)
        root = ((0, 0, 0), (256, 0, 0), (256, 256, 0), (256, 256, 256))
        block = down_to(space, root, (100, 50, 7, 1), 24)
        self.assertTrue(holds(block, (100, 50, 7, 1)))
        self.assertEqual(measure_of(block), 1)
        self.assertEqual(len(family_of(space, root, 9)), 512)

    def test_parameters(self):
        later = WRONG_NUMBERS + (5, 10 ** 59)
        wrong = {"block": WRONG_BLOCKS, "generation": later}
        check_parameters(self, family_of, [("space", PLANE), ("block", R1), ("generation", 2)], wrong)
        check_parameters(self, family_of, [("space", PLANE), ("block", TINY), ("generation", 3)],
                         {"block": (LOW + LOW,), "generation": (2, 0)})
        good = [("space", PLANE), ("block", R1), ("place", (2, 0, 1)), ("generation", 2)]
        places = WRONG_PLACES + ((0, 4, 1), (5, 5, 1), (1, 3, 2))
        check_parameters(self, down_to, good, {"block": WRONG_BLOCKS, "place": places, "generation": later})
        good = [("space", PLANE), ("block", TINY), ("place", (2, 1, 1)), ("generation", 4)]
        check_parameters(self, down_to, good, {"place": ((3, 2, 1),), "generation": (2, 0)})


if __name__ == "__main__":
    unittest.main()
