"""Straight values over meshes, [81]; (G8) of [11]."""

import unittest

from meshtools import F, FIELD_WRONGS, MARKED_FIELDS, MESH, OFF_PLACES, draw_fields, draw_mesh, draw_some_place, holding, straight, value
from tools import check_parameters, pair_of
from wholefaces.errors import NotUsable
from wholefaces.straight import straight_at
from worlds import worlds


class StraightTest(unittest.TestCase):

    def test_example(self):
        self.assertEqual(straight_at(MESH, F, "f", (1, 0, 3)), (4, 3))
        self.assertEqual(straight_at(MESH, F, "f", (2, 2, 1)), (4, 1))
        self.assertEqual(straight_at(MESH, MARKED_FIELDS, "g", (3, 3, 1)), (7, 1))

    def test_drawn_meshes(self):
        rolls, made = worlds(811, 50)
        shared = 0
        for world in made:
            mesh, lot, leaves = draw_mesh(rolls, world)
            fields = draw_fields(rolls, world.dims)
            for _ in range(8):
                place, field = draw_some_place(rolls, world, leaves), rolls.choice("fg")
                names = holding(leaves, place)
                if not names:
                    with self.assertRaises(NotUsable) as caught:
                        straight_at(mesh, fields, field, place)
                    self.assertEqual((caught.exception.word, caught.exception.at), ("place", -1))
                    continue
                told = straight_at(mesh, fields, field, place)
                self.assertEqual({pair_of(straight(fields, field, leaves[name], place)) for name in names}, {told})
                shared += len(names) > 1
            corner = rolls.choice(mesh.corners())
            self.assertEqual(straight_at(mesh, fields, "g", corner + (1,)), (value(fields, "g", corner), 1))
        self.assertGreater(shared, 50)

    def test_parameters(self):
        good = [("mesh", MESH), ("fields", F), ("field", "f"), ("place", (1, 0, 3))]
        check_parameters(self, straight_at, good, {**FIELD_WRONGS, "place": OFF_PLACES})


if __name__ == "__main__":
    unittest.main()
