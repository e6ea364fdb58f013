"""Skins, [86]; [90]; (G8) of [11]."""

import unittest
from fractions import Fraction

from meshtools import (F, FIELD_WRONGS, MARKED_FIELDS, MESH, WRONG_C, X, draw_fields, draw_mesh, scaled_place, sides_of, value)
from tools import CUBE, PLANE, WRONG_POINTS, check_parameters, fractions_of
from wholefaces.meshclasses import Mesh
from wholefaces.places import between
from wholefaces.skins import crossing_of, skin_of, skin_sides
from wholefaces.straight import straight_at
from worlds import worlds

THIRD = (("f", ("sum", ((1, X), (1, ("axis", 1)), (1, ("axis", 2))))),)


def draw_c(rolls, mesh, fields, field):
    """A value of the field at a corner, one more, or one that is above or below all."""
    values = [value(fields, field, corner) for corner in mesh.corners()]
    return rolls.choice((rolls.choice(values), rolls.choice(values) + 1, rolls.choice(values), max(values) + 1, min(values), min(values) - 1))


def row_oracle(world, block, inner):
    """The row of a block."""
    high = [corner for corner in world.order(block) if corner in inner]
    low = [corner for corner in world.order(block) if corner not in inner]
    if len(high) == 1:
        return tuple((high[0], other) for other in low)
    if len(low) == 1:
        return tuple((other, low[0]) for other in high)
    return (high[0], low[0]), (high[0], low[1]), (high[1], low[1]), (high[1], low[0])


class SkinsTest(unittest.TestCase):

    def test_examples(self):
        self.assertEqual(skin_of(MESH, F, "f", 8)[0], ((0, "1"), (((4, 4), (0, 4)), ((4, 4), (2, 2)))))
        self.assertEqual(skin_sides(MESH, F, "f", 8)[2], (((2, 2), (4, 0)), 2))
        self.assertEqual(crossing_of(PLANE, F, "f", 8, (4, 4), (2, 2)), (8, 8, 3))

    def test_rows_in_space(self):
        mesh = Mesh(CUBE, ())
        one = dict(skin_of(mesh, THIRD, "f", 6))
        self.assertEqual(one[(0, "")], tuple(((2, 2, 2), corner) for corner in ((0, 0, 0), (0, 0, 2), (0, 2, 2))))
        two = dict(skin_of(mesh, THIRD, "f", 4))
        self.assertEqual(two[(0, "")], (((0, 2, 2), (0, 0, 0)), ((0, 2, 2), (0, 0, 2)), ((2, 2, 2), (0, 0, 2)), ((2, 2, 2), (0, 0, 0))))
        three = dict(skin_of(mesh, THIRD, "f", 1))
        self.assertEqual(three[(0, "")], tuple((corner, (0, 0, 0)) for corner in ((0, 0, 2), (0, 2, 2), (2, 2, 2))))
        self.assertEqual((skin_of(mesh, THIRD, "f", 0), skin_of(mesh, THIRD, "f", 7)), ((), ()))
        self.assertEqual((skin_sides(mesh, THIRD, "f", 0), skin_sides(mesh, THIRD, "f", 7)), ((), ()))

    def test_drawn_skins(self):
        rolls, made = worlds(861, 60)
        lengths = set()
        for world in made:
            mesh, lot, leaves = draw_mesh(rolls, world)
            fields = draw_fields(rolls, world.dims)
            book = sides_of(leaves)
            for field in "fg":
                c = draw_c(rolls, mesh, fields, field)
                inner = {corner for block in leaves.values() for corner in block if value(fields, field, corner) >= c}
                mixed = lambda corners: 0 < len(set(corners) & inner) < len(corners)
                skin = tuple((name, row_oracle(world, block, inner)) for name, block in leaves.items() if mixed(block))
                self.assertEqual(skin_of(mesh, fields, field, c), skin)
                sides = tuple(sorted((tuple(sorted(side)), len(names)) for side, names in book.items() if mixed(side)))
                self.assertEqual(skin_sides(mesh, fields, field, c), sides)
                self.assertEqual(sum(many for _, many in sides), sum(len(row) for _, row in skin))
                lengths |= {(world.dims, len(row)) for _, row in skin}
                self.check_rows(rolls, world, mesh, fields, field, c, skin, dict(sides))
        self.assertEqual(lengths, {(2, 2), (3, 3), (3, 4)})

    def check_rows(self, rolls, world, mesh, fields, field, c, skin, sides):
        """Neighbours in a row of space lie on one side; the crossings have the straight value c."""
        for name, row in rolls.sample(skin, min(4, len(skin))):
            if world.dims == 3:
                for one, other in zip(row, row[1:] + row[:1]):
                    self.assertIn(tuple(sorted(set(one + other))), sides)
            inner, outer = rolls.choice(row)
            place = crossing_of(world.space, fields, field, c, inner, outer)
            a, b = value(fields, field, inner), value(fields, field, outer)
            moment = Fraction(a - c, a - b)
            self.assertEqual(place, between(world.space, inner + (1,), outer + (1,), (moment.numerator, moment.denominator)))
            self.assertEqual(straight_at(mesh, fields, field, place), (c, 1))
            self.assertTrue(fractions_of(place) != fractions_of(outer + (1,)))
            self.assertEqual(place, scaled_place([p + moment * (q - p) for p, q in zip(inner, outer)]))

    def test_crossings_at_an_end(self):
        # c is the value of the inner point, so the crossing is this point.
        self.assertEqual(crossing_of(PLANE, F, "f", 16, (4, 4), (2, 2)), (4, 4, 1))
        # From (4, 0), with 16, to (2, 7), with 4, c is at 11 / 12 of the way.
        self.assertEqual(crossing_of(PLANE, F, "f", 5, (4, 0), (2, 7)), (26, 77, 12))
        self.assertEqual(crossing_of(PLANE, F, "f", 1, (-1, 5), (0, 5)), (-1, 5, 1))

    def test_parameters(self):
        good = [("mesh", MESH), ("fields", F), ("field", "f"), ("c", 8)]
        for function in (skin_of, skin_sides):
            check_parameters(self, function, good, {**FIELD_WRONGS, "c": WRONG_C})
        good = [("space", PLANE), ("fields", MARKED_FIELDS), ("field", "f"), ("c", 8), ("inner", (4, 4)), ("outer", (2, 2))]
        check_parameters(self, crossing_of, good[:3] + [("c", 9)] + good[4:], {"inner": ((2, 4), (-2, 0)), "outer": ((3, 0), (-3, 5), (4, 4))})
        inner = WRONG_POINTS + ((2, 2), (-2, 9), (0, 0))
        outer = WRONG_POINTS + ((4, 4), (3, 0), (-3, 1))
        check_parameters(self, crossing_of, good, {**FIELD_WRONGS, "c": WRONG_C, "inner": inner, "outer": outer})


if __name__ == "__main__":
    unittest.main()
