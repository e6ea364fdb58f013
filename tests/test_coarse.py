"""The closed lots next to a cutting, [49] and [52]; and what (G4) of [11] promises of them."""

import unittest
from itertools import combinations

from test_cuttings import CUT
from tools import SQUARE, check_parameters
from wholefaces.coarse import over_of, under_of
from wholefaces.closing import closure_of
from wholefaces.cuttings import cutting_of, middles_of
from wholefaces.meshclasses import Mesh
from worlds import WRONG_CUTTINGS, worlds


def all_lots(world):
    """All closed lots of a world with few points."""
    for many in range(len(world.points) + 1):
        for lot in combinations(world.points, many):
            if world.is_closed(lot):
                yield lot


class CoarseTest(unittest.TestCase):

    def test_small_cuttings(self):
        self.assertEqual(over_of(SQUARE, ()), ())
        self.assertEqual(under_of(SQUARE, ()), ())
        self.assertEqual(over_of(SQUARE, CUT), ((2, 2), (0, 2), (2, 0), (1, 1)))
        self.assertEqual(under_of(SQUARE, CUT), ())
        self.assertEqual(under_of(SQUARE, ((0, ""), (0, "0"), (1, ""))), ((2, 2), (0, 2)))
        self.assertEqual(over_of(SQUARE, ((0, ""), (0, "0"), (1, ""))), ((2, 2), (0, 2)))

    def test_against_all_lots(self):
        rolls, made = worlds(491, 40, 1, 1, 2)
        for world in made:
            if len(world.points) > 10:
                continue
            for _ in range(3):
                cutting = world.draw_cutting(rolls)
                finer = [lot for lot in all_lots(world) if set(world.cutting(lot)) >= set(cutting)]
                coarser = [lot for lot in all_lots(world) if set(world.cutting(lot)) <= set(cutting)]
                least = [lot for lot in finer if all(set(lot) <= set(other) for other in finer)]
                greatest = [lot for lot in coarser if all(set(lot) >= set(other) for other in coarser)]
                self.assertEqual([over_of(world.solid, cutting)], least)
                self.assertEqual([under_of(world.solid, cutting)], greatest)

    def test_drawn_cuttings(self):
        rolls, made = worlds(492, 50)
        for world in made:
            cutting = world.draw_cutting(rolls, 20)
            over, under = over_of(world.solid, cutting), under_of(world.solid, cutting)
            self.assertEqual(over, closure_of(world.solid, middles_of(world.solid, cutting)))
            self.assertLessEqual(set(cutting), set(world.cutting(over)))
            self.assertTrue(world.is_closed(under))
            self.assertLessEqual(set(world.cutting(under)), set(cutting))
            # No point can be added to the lower one.
            for point in world.points:
                if point not in under and all(need in under for need in world.needs[point]):
                    self.assertFalse(set(world.ring[point]) <= set(cutting))

    def test_cuttings_of_meshes(self):
        rolls, made = worlds(493, 40)
        for world in made:
            lot = world.draw_lot(rolls)
            cutting = cutting_of(Mesh(world.solid, lot))
            self.assertEqual(over_of(world.solid, cutting), lot)
            self.assertEqual(under_of(world.solid, cutting), lot)

    def test_parameters(self):
        for function in (over_of, under_of):
            check_parameters(self, function, [("solid", SQUARE), ("cutting", CUT)], {"cutting": WRONG_CUTTINGS})


if __name__ == "__main__":
    unittest.main()
