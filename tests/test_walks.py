"""Ways through meshes, [74]; [80]; (G7) of [11]."""

import unittest
from fractions import Fraction

from meshtools import M, carrier, draw_mesh, draw_some_place, holding, place_weights, scaled_place
from tools import PAIR, PLANE, SQUARE, WRONG_PLACES, check_parameters, fractions_of, pair_of
from wholefaces.locating import carrier_of
from wholefaces.meshclasses import Mesh
from wholefaces.places import between
from wholefaces.walks import walk_of
from worlds import worlds

HALF = Fraction(1, 2)


def at_moment(place, other, moment):
    """The place at a moment of the way."""
    here, there = fractions_of(place), fractions_of(other)
    return scaled_place([a + moment * (b - a) for a, b in zip(here, there)])


def corners_there(leaves, place):
    """The corners of the carrier of a place, or None."""
    names = holding(leaves, place)
    return tuple(corner for corner, _ in carrier(leaves[names[0]], place)) if names else None


def walk_oracle(leaves, place, other):
    """The triples of a way, by looking at each moment at which any weight of any block is 0, and between these."""
    moments = {Fraction(0), Fraction(1)}
    for block in leaves.values():
        for begin, end in zip(place_weights(block, place), place_weights(block, other)):
            if begin != end and 0 <= begin / (begin - end) <= 1:
                moments.add(begin / (begin - end))
    moments = sorted(moments)
    parts = [(moments[0], moments[0])]
    for first, last in zip(moments, moments[1:]):
        parts += [(first, last), (last, last)]
    joined = []
    for first, last in parts:
        corners = corners_there(leaves, at_moment(place, other, (first + last) * HALF))
        if joined and joined[-1][2] == corners:
            first = joined.pop()[0]
        joined.append((first, last, corners))
    return tuple((pair_of(first), pair_of(last), corners) for first, last, corners in joined)


def turned(walk):
    """The triples of the way back."""
    return tuple(((last[1] - last[0], last[1]), (first[1] - first[0], first[1]), corners) for first, last, corners in reversed(walk))


class WalksTest(unittest.TestCase):

    def test_examples(self):
        self.assertEqual(walk_of(M, (1, 1, 1), (3, 3, 1)),
                         (((0, 1), (1, 2), ((0, 0), (2, 2))), ((1, 2), (1, 2), ((2, 2),)), ((1, 2), (1, 1), ((2, 2), (4, 4)))))
        self.assertEqual(walk_of(M, (2, -1, 1), (2, 0, 1)), (((0, 1), (1, 1), None), ((1, 1), (1, 1), ((2, 0),))))

    def test_ways_along_and_past(self):
        told = walk_of(M, (-2, 0, 1), (6, 0, 1))
        self.assertEqual([corners for _, _, corners in told],
                         [None, ((0, 0),), ((0, 0), (2, 0)), ((2, 0),), ((2, 0), (4, 0)), ((4, 0),), None])
        self.assertEqual([first for first, _, _ in told], [(0, 1), (1, 4), (1, 4), (1, 2), (1, 2), (3, 4), (3, 4)])
        # Past the solid, and touching it in one corner alone.
        self.assertEqual(walk_of(M, (-1, 0, 1), (-1, 9, 1)), (((0, 1), (1, 1), None),))
        self.assertEqual(walk_of(M, (-1, 1, 1), (1, -1, 1)), (((0, 1), (1, 2), None), ((1, 2), (1, 2), ((0, 0),)), ((1, 2), (1, 1), None)))
        # From corner to corner.
        self.assertEqual(walk_of(M, (2, 0, 1), (2, 2, 1)),
                         (((0, 1), (0, 1), ((2, 0),)), ((0, 1), (1, 1), ((2, 0), (2, 2))), ((1, 1), (1, 1), ((2, 2),))))

    def test_one_place(self):
        for place in ((1, 1, 2), (2, 0, 1), (1, 0, 1), (9, 1, 2), (0, -1, 3)):
            found = carrier_of(M, place)
            corners = None if found is None else tuple(corner for corner, _ in found)
            self.assertEqual(walk_of(M, place, place), (((0, 1), (0, 1), corners),))

    def test_a_gap(self):
        solid = (PLANE, (SQUARE[1][0], ((8, 0), (8, 4), (4, 4)), ((16, 0), (12, 0), (12, 4))))
        told = walk_of(Mesh(solid, ()), (0, 3, 1), (16, 3, 1))
        self.assertEqual([corners for _, _, corners in told].count(None), 3)
        self.check_form(told)

    def check_form(self, told):
        """Moments and longer parts in turn, no corners twice but None, from beginning to end."""
        self.assertEqual((told[0][0], told[-1][1]), ((0, 1), (1, 1)))
        for ahead, behind in zip(told, told[1:]):
            self.assertEqual(ahead[1], behind[0])
            self.assertNotEqual(ahead[0] == ahead[1], behind[0] == behind[1])
        corners = [corners for _, _, corners in told if corners is not None]
        self.assertEqual(len(set(corners)), len(corners))

    def test_drawn_ways(self):
        rolls, made = worlds(741, 60, 3, 2, 5)
        longest = 0
        for world in made:
            mesh, lot, leaves = draw_mesh(rolls, world, 3)
            for _ in range(4):
                place, other = draw_some_place(rolls, world, leaves), draw_some_place(rolls, world, leaves)
                if rolls.randrange(3) == 0:
                    # Beyond both ends.
                    place, other = at_moment(place, other, Fraction(-3)), at_moment(place, other, Fraction(5, 2))
                if place == other or len(leaves) > 150:
                    continue
                told = walk_of(mesh, place, other)
                self.assertEqual(told, walk_oracle(leaves, place, other))
                self.check_form(told)
                self.assertEqual(walk_of(mesh, other, place), turned(told))
                for first, last, corners in told:
                    moment = pair_of((Fraction(*first) + 2 * Fraction(*last)) / 3)
                    found = carrier_of(mesh, between(world.space, place, other, moment))
                    self.assertEqual(None if found is None else tuple(corner for corner, _ in found), corners)
                longest = max(longest, len(told))
        self.assertGreater(longest, 12)

    def test_parameters(self):
        good = [("mesh", Mesh(PAIR, ())), ("place", (1, 1, 1)), ("other", (5, 1, 2))]
        check_parameters(self, walk_of, good, {"place": WRONG_PLACES, "other": WRONG_PLACES})


if __name__ == "__main__":
    unittest.main()
