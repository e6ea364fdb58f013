"""Edges, roads, [26] and (G1)."""

import unittest

from tools import LOW, PLANE, R1, WRONG_BLOCKS, WRONG_NUMBERS, check_parameters, oracle_blocks, oracle_generation, oracle_halves
from wholefaces.edges import half_way, road_to

CASES = (((2, 0), [(0, 0)]), ((2, 3), [(0, 0), (-1, 2)]), ((3, 0), [(1, 0, 0)]), ((3, 1), [(0, 0, 0), (-3, 5, 1)]),
         ((3, 2), [(-1, 0, 0)]))


class EdgesTest(unittest.TestCase):

    def test_examples(self):
        self.assertEqual(half_way(PLANE, R1, 0, 1), 1)
        self.assertEqual(road_to(PLANE, R1, 1, 2), "1")
        self.assertEqual(road_to(PLANE, R1, 0, 2), "")
        self.assertEqual(road_to(PLANE, R1, 0, 1), "0")

    def check_edge(self, space, block, generation, one, other):
        dims, rounds = space
        pairs = list(zip(block[one], block[other]))
        if any((a + b) % 2 for a, b in pairs):
            self.assertIsNone(half_way(space, block, one, other))
            good = [("space", PLANE), ("block", R1), ("one", 0), ("other", 1)]
            with self.assertRaises(ValueError) as caught:
                road_to(space, block, one, other)
            self.assertEqual((caught.exception.word, caught.exception.at), ("other", -1), good)
            return
        expected = oracle_generation(space, tuple((a + b) // 2 for a, b in pairs))
        self.assertEqual(half_way(space, block, one, other), expected)
        self.assertIs(expected == generation, (one, other) == (0, dims - generation % dims))
        road = road_to(space, block, one, other)
        at, now = block, generation
        for figure in road:
            at = oracle_halves(dims, at, now)[int(figure)]
            now += 1
        k = dims - now % dims
        self.assertEqual({at[0], at[k]}, {block[one], block[other]})
        self.assertEqual(now, expected)
        self.assertLessEqual(len(road), 2 * dims - 3)

    def test_all_edges(self):
        for space, cubes in CASES:
            for block, (generation, _, _, _) in oracle_blocks(space, cubes).items():
                for other in range(1, space[0] + 1):
                    for one in range(other):
                        self.check_edge(space, block, generation, one, other)

    def test_top_has_none(self):
        top = ((2, 0), (3, 0), (3, 1))
        for one, other in ((0, 1), (0, 2), (1, 2)):
            self.assertIsNone(half_way(PLANE, top, one, other))

    def test_parameters(self):
        others = WRONG_NUMBERS + (0, 3, 10 ** 59)
        wrong = {"block": WRONG_BLOCKS, "one": WRONG_NUMBERS + (2, 3, 10 ** 59), "other": others}
        for function in (half_way, road_to):
            check_parameters(self, function, [("space", PLANE), ("block", R1), ("one", 0), ("other", 2)], wrong)
            check_parameters(self, function, [("space", PLANE), ("block", R1), ("one", 1), ("other", 2)], {"other": (1, 0)})
        # Half-way of the corners 0 and 2 of LOW's low half is no point.
        half = ((0, 0), (2, 0), (2, 2))
        self.assertEqual(half_way(PLANE, half, 0, 1), 3)
        tiny = ((0, 0), (1, 1), (2, 0))
        self.assertIsNone(half_way(PLANE, ((0, 0), (2, 0), (1, 1)), 0, 2))
        good = [("space", PLANE), ("block", ((0, 0), (2, 0), (1, 1))), ("one", 0), ("other", 1)]
        check_parameters(self, road_to, good, {"block": (tiny,), "other": (2,)})
        self.assertEqual(half_way(PLANE, LOW, 0, 2), 2)


if __name__ == "__main__":
    unittest.main()
