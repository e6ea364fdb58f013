"""Cuttings, their leaves and loose corners, [48]; and what (G1) and (G2) of [11] promise of them."""

import unittest
from itertools import combinations

from tools import CUBE, ODDS, PAIR, SQUARE, check_parameters, deep
from wholefaces.closing import is_closed
from wholefaces.cuttings import cutting_of, half_corners, is_cutting, leaves_of, loose_corners, middles_of
from wholefaces.meshclasses import Mesh
from worlds import WRONG_CUTTINGS, worlds

CUT = ((0, ""), (0, "0"), (0, "00"))
# Eleven roots in a row.
ELEVEN = ((2, 2), tuple(sorted(((4 * (k + k % 2), 0), (4 * (k + 1 - k % 2), 0), (4 * (k + 1 - k % 2), 4)) for k in range(11))))


def oracle_loose(world, cutting):
    """All loose corners."""
    leaves = world.cut_leaves(cutting)
    corners = world.order(corner for name in leaves for corner in world.blocks[name])
    return tuple((name, p) for name in leaves for p in corners
                 if p not in world.blocks[name] and world.block_holds(name, p))


def is_half(block, point):
    """Whether a point is half-way of two corners."""
    return any(all(a + b == 2 * n for a, b, n in zip(one, two, point)) for one, two in combinations(block, 2))


class CuttingsTest(unittest.TestCase):

    def test_examples(self):
        self.assertEqual(loose_corners(SQUARE, ((0, ""),)), (((1, ""), (2, 2)),))
        self.assertEqual(half_corners(SQUARE, ((0, ""),)), (((1, ""), (2, 2)),))
        self.assertEqual(leaves_of(SQUARE, CUT), ((0, "000"), (0, "001"), (0, "01"), (0, "1"), (1, "")))
        self.assertEqual(middles_of(SQUARE, CUT), ((2, 2), (0, 2), (1, 1)))
        self.assertEqual(loose_corners(SQUARE, CUT), (((1, ""), (2, 2)), ((1, ""), (1, 1))))
        self.assertEqual(half_corners(SQUARE, CUT), (((1, ""), (2, 2)),))
        self.assertEqual(cutting_of(Mesh(SQUARE, ((2, 2), (2, 0)))), ((0, ""), (1, ""), (1, "0")))
        self.assertEqual((leaves_of(SQUARE, ()), middles_of(SQUARE, ()), loose_corners(SQUARE, ())), (((0, ""), (1, "")), (), ()))

    def check(self, world, cutting):
        self.assertIs(is_cutting(world.solid, cutting), True)
        leaves = world.cut_leaves(cutting)
        self.assertEqual(leaves_of(world.solid, cutting), leaves)
        middles = world.order(world.middle[name] for name in cutting)
        self.assertEqual(middles_of(world.solid, cutting), middles)
        loose = oracle_loose(world, cutting)
        self.assertEqual(loose_corners(world.solid, cutting), loose)
        halves = tuple((name, p) for name, p in loose if is_half(world.blocks[name], p))
        self.assertEqual(half_corners(world.solid, cutting), halves)
        # That of a closed lot has no loose corner, and the others have one that is half-way.
        closed = is_closed(world.solid, middles) and world.cutting(middles) == cutting
        self.assertEqual(closed, loose == ())
        self.assertEqual(closed, halves == ())
        if closed:
            self.assertEqual(cutting_of(Mesh(world.solid, middles)), cutting)

    def test_drawn_cuttings(self):
        rolls, made = worlds(481, 50)
        for world in made:
            for _ in range(2):
                self.check(world, world.draw_cutting(rolls))

    def test_row_of_halvings_to_the_end(self):
        for world in worlds(482, 14)[1]:
            for figures in ("0" * world.top, "1" * world.top, ("01" * world.top)[:world.top]):
                self.check(world, tuple((0, figures[:k]) for k in range(world.top)))

    def test_cuttings_of_meshes(self):
        rolls, made = worlds(483, 30)
        for world in made:
            lot = world.draw_lot(rolls)
            self.assertEqual(cutting_of(Mesh(world.solid, lot)), world.cutting(lot))
            self.assertEqual(leaves_of(world.solid, world.cutting(lot)), world.leaves(lot))
            self.assertEqual(loose_corners(world.solid, world.cutting(lot)), ())

    def test_loose_corners_that_are_not_half_way(self):
        rolls, made = worlds(484, 30)
        many = 0
        for world in made:
            cutting = world.draw_cutting(rolls, 20)
            many += len(loose_corners(world.solid, cutting)) - len(half_corners(world.solid, cutting))
        self.assertGreater(many, 0)

    def test_what_is_no_cutting(self):
        for thing in WRONG_CUTTINGS + ODDS + (deep(CUT, 25), CUT + CUT, CUT[::-1], ((0, ""),) * 5000):
            self.assertIs(is_cutting(SQUARE, thing), False, thing)
        for thing in ((), CUT, ((0, ""), (1, "")), ((0, ""), (0, "0"), (0, "00"), (0, "000"))):
            self.assertIs(is_cutting(SQUARE, thing), True)
        self.assertIs(is_cutting(PAIR, ((3, ""),)), True)
        self.assertIs(is_cutting(CUBE, ((5, ""), (5, "0"), (5, "01"))), True)
        self.assertIs(is_cutting(CUBE, ((5, ""), (5, "0"), (5, "01"), (5, "010"))), False)
        self.assertIs(is_cutting(thing=CUT, solid=SQUARE), True)
        self.assertIs(is_cutting(ELEVEN, ((2, ""), (10, ""))), True)
        self.assertIs(is_cutting(ELEVEN, ((10, ""), (2, ""))), False)

    def test_parameters(self):
        for function in (leaves_of, middles_of, loose_corners, half_corners):
            check_parameters(self, function, [("solid", SQUARE), ("cutting", CUT)], {"cutting": WRONG_CUTTINGS})


if __name__ == "__main__":
    unittest.main()
