"""How many blocks meshes have, [45]."""

import unittest

from tools import PAIR, SQUARE, check_parameters
from wholefaces.counts import by_generation, many_of, weight_of
from wholefaces.meshclasses import Mesh
from worlds import OPEN_LOTS, WRONG_LOTS, worlds


class CountsTest(unittest.TestCase):

    def test_example(self):
        mesh = Mesh(SQUARE, ((2, 2), (2, 0)))
        self.assertEqual((by_generation(mesh), weight_of(mesh)), ((0, 3, 2), 32))
        self.assertEqual(many_of(SQUARE, ((2, 2), (2, 0))), 5)
        self.assertEqual((many_of(PAIR, ()), by_generation(Mesh(PAIR, ())), weight_of(mesh=Mesh(PAIR, ()))), (4, (4,), 64))

    def test_drawn_meshes(self):
        rolls, made = worlds(451, 40)
        for world in made:
            lot = world.draw_lot(rolls)
            leaves = world.leaves(lot)
            mesh = Mesh(world.solid, lot)
            self.assertEqual(many_of(world.solid, lot), len(leaves))
            self.assertEqual(many_of(world.solid, lot), len(world.roots) + sum(len(world.ring[p]) for p in lot))
            greatest = max(len(path) for _, path in leaves)
            counts = tuple(sum(1 for _, path in leaves if len(path) == g) for g in range(greatest + 1))
            self.assertEqual(by_generation(mesh), counts)
            self.assertGreater(counts[-1], 0)
            self.assertEqual(weight_of(mesh), sum(2 ** (world.top - len(path)) for _, path in leaves))
            self.assertEqual(weight_of(mesh), len(world.roots) * 2 ** world.top)

    def test_parameters(self):
        good = [("solid", SQUARE), ("lot", ((2, 2), (2, 0)))]
        check_parameters(self, many_of, good, {"lot": WRONG_LOTS + OPEN_LOTS})


if __name__ == "__main__":
    unittest.main()
