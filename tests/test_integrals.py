"""Fields added up over meshes, [84]; [89]."""

import unittest
from fractions import Fraction

from meshtools import F, FIELD_WRONGS, MARKED_FIELDS, MESH, draw_fields, draw_mesh, measure, value
from tools import CUBE, R0, SQUARE, check_parameters, pair_of
from wholefaces.integrals import total_by_points, total_of
from wholefaces.meshclasses import Mesh
from worlds import worlds


def total_oracle(leaves, fields, field):
    """The sum of measure times mean over blocks."""
    return pair_of(sum(Fraction(measure(block) * sum(value(fields, field, corner) for corner in block), len(block)) for block in leaves))


class IntegralsTest(unittest.TestCase):

    def test_examples(self):
        self.assertEqual((total_of(MESH, F, "f"), total_by_points(MESH, F, "f")), ((640, 3), (640, 3)))
        self.assertEqual(total_of(Mesh((SQUARE[0], (R0,)), ()), F, "f"), (256, 3))
        self.assertEqual(total_by_points(MESH, MARKED_FIELDS, "g"), total_of(MESH, MARKED_FIELDS, "g"))
        # The corners of the cube have 2 * x with mean 2; six times its measure is 48.
        fields = (("f", ("sum", ((1, ("axis", 0)), (1, ("axis", 0))))),)
        self.assertEqual((total_of(Mesh(CUBE, ()), fields, "f"), total_by_points(Mesh(CUBE, ()), fields, "f")), ((96, 1), (96, 1)))

    def test_drawn_meshes(self):
        rolls, made = worlds(841, 60)
        for world in made:
            mesh, lot, leaves = draw_mesh(rolls, world)
            fields = draw_fields(rolls, world.dims)
            for field in "fg":
                told = total_of(mesh, fields, field)
                self.assertEqual(told, total_oracle(leaves.values(), fields, field))
                self.assertEqual(total_by_points(mesh, fields, field), told)

    def test_one_straight_piece(self):
        # A field made of one straight piece has one total over all meshes.
        rolls, made = worlds(842, 20)
        for world in made:
            fields = (("f", ("sum", tuple((rolls.choice((1, -1)), ("axis", rolls.randrange(world.dims))) for _ in range(3)) + ((1, ("number", 7)),))),)
            coarse = total_of(Mesh(world.solid, ()), fields, "f")
            for _ in range(3):
                mesh, lot, leaves = draw_mesh(rolls, world)
                self.assertEqual(total_of(mesh, fields, "f"), coarse)
                self.assertEqual(total_by_points(mesh, fields, "f"), coarse)

    def test_parameters(self):
        for function in (total_of, total_by_points):
            check_parameters(self, function, [("mesh", MESH), ("fields", F), ("field", "f")], FIELD_WRONGS)


if __name__ == "__main__":
    unittest.main()
