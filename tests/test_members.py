"""Points, rings, needs, blocks and names of solids, [40]; [6] and [7]."""

import unittest

from tools import CUBE, LOW, PAIR, R0, R1, SQUARE, TINY, WRONG_BLOCKS, WRONG_NUMBERS, WRONG_POINTS, check_parameters, grid
from wholefaces.members import block_named, holds_point, name_of, names_upto, needs_of, points_below, ring_of
from wholefaces.rings import whole_ring
from worlds import OFF_NAMES, OFF_POINTS, World, worlds


class MembersTest(unittest.TestCase):

    def test_examples(self):
        self.assertEqual(ring_of(SQUARE, (2, 0)), (LOW,))
        self.assertEqual(needs_of(SQUARE, (2, 0)), ((2, 2),))
        self.assertEqual(ring_of(SQUARE, (2, 2)), (R1, R0))
        self.assertEqual(needs_of(SQUARE, (2, 2)), ())
        self.assertEqual(needs_of(PAIR, (4, 2)), ((2, 2), (6, 2)))
        self.assertEqual(needs_of(SQUARE, (4, 2)), ((2, 2),))
        self.assertEqual(points_below(SQUARE, 2), ((2, 2), (0, 2), (2, 0), (2, 4), (4, 2)))
        self.assertEqual(names_upto(SQUARE, 1), ((0, ""), (0, "0"), (0, "1"), (1, ""), (1, "0"), (1, "1")))
        self.assertEqual(name_of(SQUARE, TINY), (1, "011"))
        self.assertEqual(block_named(SQUARE, (1, "011")), TINY)
        self.assertEqual(len(ring_of(CUBE, (1, 1, 1))), 6)

    def test_all_points(self):
        for world in worlds(401, 24)[1]:
            low = min(n for root in world.roots for corner in root for n in corner)
            high = max(n for root in world.roots for corner in root for n in corner)
            points = grid(world.dims, low - 1, high + 1) if high - low < 12 else list(world.points) + [(low,) * world.dims]
            for point in points:
                self.assertIs(holds_point(world.solid, point), point in world.ring)
            for point, ring in world.ring.items():
                blocks = [world.blocks[name] for name in ring]
                self.assertEqual(ring_of(world.solid, point), tuple(b for b in whole_ring(world.space, point) if b in blocks))
                self.assertEqual(sorted(ring_of(world.solid, point)), sorted(blocks))
                self.assertEqual(needs_of(world.solid, point), world.needs[point])

    def test_all_blocks(self):
        for world in worlds(402, 18)[1]:
            for name, block in world.blocks.items():
                self.assertEqual(name_of(world.solid, block), name)
                self.assertEqual(block_named(world.solid, name), block)
            for generation in range(world.top + 1):
                self.assertEqual(points_below(world.solid, generation), world.below(generation))
                names = tuple(name for name in world.names if len(name[1]) <= generation)
                self.assertEqual(names_upto(world.solid, generation), names)

    def test_points_of_a_solid_are_those_that_its_roots_hold(self):
        for world in worlds(403, 8, 2, 1)[1]:
            for point in grid(world.dims, -6, 7)[::3]:
                inside = any(world.block_holds((k, ""), point) for k in range(len(world.roots)))
                self.assertIs(holds_point(world.solid, point), inside and world.is_new(point))

    def test_many_roots(self):
        solid = World(PAIR).solid
        roots = tuple(sorted(((4 * i + 4 * a, 0), (4 * i + 4 - 4 * a, 0), (4 * i + 4 - 4 * a, 4)) for i, a in
                             [(k, k % 2) for k in range(13)]))
        solid = (solid[0], roots)
        self.assertEqual([name[0] for name in names_upto(solid, 0)], list(range(13)))
        self.assertEqual(block_named(solid, (12, "")), roots[12])
        self.assertEqual(names_upto(solid, 1)[3 * 2:3 * 2 + 3], ((2, ""), (2, "0"), (2, "1")))
        self.assertEqual(names_upto(solid, 1)[-1], (12, "1"))

    def test_fine_space(self):
        solid = ((3, 5), (((64, 0, 0), (64, 0, 32), (32, 0, 32), (32, 32, 32)),))
        self.assertIs(holds_point(solid, (33, 0, 32)), True)
        self.assertIs(holds_point(solid, (33, 1, 0)), False)
        name = (0, "010101010101010")
        self.assertEqual(name_of(solid, block_named(solid, name)), name)

    def test_parameters(self):
        solid = [("solid", SQUARE)]
        check_parameters(self, holds_point, solid + [("point", (2, 0))], {"point": WRONG_POINTS})
        self.assertIs(holds_point(SQUARE, (0, 0)), False)
        self.assertIs(holds_point(SQUARE, (6, 2)), False)
        for function in (ring_of, needs_of):
            check_parameters(self, function, solid + [("point", (2, 0))], {"point": OFF_POINTS})
        blocks = WRONG_BLOCKS + (PAIR[1][2], ((4, 0), (8, 0), (8, 4)))
        check_parameters(self, name_of, solid + [("block", TINY)], {"block": blocks})
        check_parameters(self, block_named, solid + [("name", (1, "01"))], {"name": OFF_NAMES})
        for function in (points_below, names_upto):
            check_parameters(self, function, solid + [("generation", 2)], {"generation": WRONG_NUMBERS + (5, 10 ** 59)})
            function(SQUARE, 4)


if __name__ == "__main__":
    unittest.main()
