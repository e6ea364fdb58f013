"""Places in meshes, [72]; (G2) of [11]."""

import unittest

from meshtools import M, carrier, draw_mesh, draw_some_place, holding
from tools import CUBE, PAIR, PLANE, WRONG_PLACES, check_parameters
from wholefaces.locating import carrier_of, first_holder, holders_of
from wholefaces.meshclasses import Mesh
from wholefaces.roots import cube_roots
from worlds import worlds


class LocatingTest(unittest.TestCase):

    def test_examples(self):
        self.assertEqual((holders_of(M, (1, 1, 1)), first_holder(M, (9, 0, 2))), (((0, "0"), (1, "00")), None))
        self.assertEqual(carrier_of(M, (2, 1, 1)), (((2, 0), (1, 2)), ((2, 2), (1, 2))))
        self.assertEqual((holders_of(M, (9, 0, 2)), carrier_of(M, (9, 0, 2))), ((), None))
        self.assertEqual(first_holder(M, (1, 1, 1)), (0, "0"))

    def test_drawn_places(self):
        rolls, made = worlds(721, 70)
        shared = outside = 0
        for world in made:
            mesh, lot, leaves = draw_mesh(rolls, world)
            for _ in range(14):
                place = draw_some_place(rolls, world, leaves)
                names = holding(leaves, place)
                self.assertEqual(holders_of(mesh, place), names)
                self.assertEqual(first_holder(mesh, place), names[0] if names else None)
                carriers = {carrier(leaves[name], place) for name in names}
                self.assertEqual(carrier_of(mesh, place), carriers.pop() if carriers else None)
                self.assertEqual(carriers, set())
                shared, outside = shared + (len(names) > 1), outside + (len(names) == 0)
        self.assertGreater(min(shared, outside), 50)

    def test_touching_cubes(self):
        # Two cubes of space that share one corner alone.
        solid = ((3, 1), (CUBE[1][0], tuple(tuple(4 - n for n in corner) for corner in CUBE[1][0])))
        solid = (solid[0], tuple(sorted(solid[1])))
        mesh = Mesh(solid, ())
        self.assertEqual(holders_of(mesh, (2, 2, 2, 1)), ((0, ""), (1, "")))
        self.assertEqual(carrier_of(mesh, (2, 2, 2, 1)), (((2, 2, 2), (1, 1)),))
        self.assertEqual(holders_of(Mesh(PAIR, ()), (4, 1, 1)), ((1, ""), (2, "")))

    def test_names_in_sequence(self):
        roots = sorted(root for x in range(-3, 3) for root in cube_roots(PLANE, (x, 0)))
        solid = (PLANE, tuple(roots))
        mesh = Mesh(solid, ())
        self.assertEqual(len(mesh), 12)
        found = [holders_of(mesh, (x, 0, 1)) for x in range(-12, 13, 4)]
        self.assertTrue(any(number > 9 for row in found for number, _ in row))
        for row in found:
            self.assertEqual(list(row), sorted(row))

    def test_parameters(self):
        for function in (holders_of, first_holder, carrier_of):
            check_parameters(self, function, [("mesh", M), ("place", (1, 1, 1))], {"place": WRONG_PLACES})


if __name__ == "__main__":
    unittest.main()
