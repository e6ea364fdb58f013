"""Surpluses and the lots that carry them, [83]; [89]; (G8) of [11]."""

import unittest
from fractions import Fraction

from meshtools import F, FIELD_WRONGS, FLAT, FRAME, WRONG_FIELD_NAMES, as_fraction, draw_fields, surplus, value
from musttools import draw_frame, fine_oracle, names_within
from tools import CUBE, SQUARE, WRONG_NUMBERS, check_parameters
from wholefaces.carrying import carrying_lot, surplus_of, thinned_lot
from wholefaces.fine import errors_over, nearest_lot
from wholefaces.meshclasses import Mesh
from wholefaces.straight import straight_at
from worlds import OFF_POINTS, World, worlds


class CarryingTest(unittest.TestCase):

    def test_examples(self):
        self.assertEqual(surplus_of(SQUARE, F, "f", (2, 0)), -8)
        self.assertEqual((carrying_lot(FRAME, "f"), thinned_lot(FRAME, "f", 8)), (((2, 2), (2, 0), (2, 4)), ((), (8, 1))))
        self.assertEqual(thinned_lot(FRAME, "f", 7), (((2, 2), (2, 0), (2, 4)), (7, 1)))
        self.assertEqual((carrying_lot(FLAT, "f"), thinned_lot(FLAT, "f", 3)), ((), ((), (3, 1))))
        self.assertEqual(thinned_lot((SQUARE, 3, (), F), "f", 1)[1], (3, 2))
        self.assertEqual((carrying_lot((SQUARE, 0, (), F), "f"), thinned_lot((SQUARE, 0, (), F), "f", 9)), ((), ((), (0, 1))))
        # Points of generation deep do not count.
        self.assertEqual(carrying_lot((SQUARE, 1, (), F), "f"), ((2, 2),))

    def test_surplus_of_the_other_sign(self):
        fields = (("f", ("sum", ((-1, ("product", (("axis", 0), ("axis", 0)))),))),)
        self.assertEqual(surplus_of(SQUARE, fields, "f", (2, 0)), 8)
        self.assertEqual(thinned_lot((SQUARE, 2, (), fields), "f", 7)[0], ((2, 2), (2, 0), (2, 4)))

    def test_drawn_fields(self):
        rolls, made = worlds(831, 40)
        some = 0
        for world in made:
            fields = draw_fields(rolls, world.dims)
            frame = draw_frame(rolls, world, 150, named=False)[:3] + (fields,)
            for field in "fg":
                found = {point: surplus(world, fields, field, point) for point in world.points}
                for point in rolls.sample(world.points, min(5, len(world.points))):
                    self.assertEqual(surplus_of(world.solid, fields, field, point), found[point])
                below = world.below(frame[1])
                lot = world.closure([point for point in below if found[point] != 0])
                self.assertEqual(carrying_lot(frame, field), lot)
                self.assertEqual(thinned_lot(frame, field, 0)[0], lot)
                sizes = [abs(found[point]) for point in below] or [0]
                size = rolls.choice(sizes)
                for most in {size, size + 1, max(0, size - 1), rolls.randrange(20)}:
                    told = thinned_lot(frame, field, most)
                    self.assertEqual(told[0], world.closure([point for point in below if abs(found[point]) > most]))
                    self.assertEqual(as_fraction(told[1]), Fraction(frame[1] * most, 2))
                    some += 0 < len(told[0]) < len(lot)
        self.assertGreater(some, 15)

    def test_bound_of_thinned_meshes(self):
        rolls, made = worlds(832, 30, 2, 1)
        for world in made:
            frame = draw_frame(rolls, world, 60, named=False)[:3] + (draw_fields(rolls, world.dims),)
            for most in (0, 1, rolls.randrange(30)):
                lot, bound = thinned_lot(frame, "g", most)
                for _, error in errors_over(Mesh(world.solid, lot), frame[3], "g", frame[1]):
                    self.assertLessEqual(as_fraction(error), as_fraction(bound))
            self.assertEqual(nearest_lot(frame, "g", (0, 1)), carrying_lot(frame, "g"))

    def test_what_a_mesh_carries(self):
        # Value and straight value are the same at all fine points exactly if the lot has all points with a surplus.
        rolls, made = worlds(833, 70, 2, 1, 3)
        told = {True: 0, False: 0}
        for world in made:
            frame = draw_frame(rolls, world, 50, named=False)[:3] + (draw_fields(rolls, world.dims, 1),)
            lot = world.closure([point for point in world.draw_points(rolls, 3) if point in world.below(frame[1])])
            if rolls.randrange(2):
                lot = world.closure(lot + carrying_lot(frame, "g"))
            mesh = Mesh(world.solid, lot)
            fine = {point for name in mesh.block_names() for point in fine_oracle(world, frame[1], name)}
            same = all(straight_at(mesh, frame[3], "g", point + (1,)) == (value(frame[3], "g", point), 1) for point in fine)
            self.assertEqual(same, set(carrying_lot(frame, "g")) <= set(lot))
            told[same] += 1
        self.assertGreater(min(told.values()), 5)

    def test_space(self):
        fields = (("f", ("product", (("axis", 2), ("axis", 1)))),)
        frame, world = (CUBE, 3, (), fields), World(CUBE)
        self.assertEqual(len(names_within(world, 3)), 90)
        found = [point for point in world.below(3) if surplus(world, fields, "f", point)]
        self.assertEqual(carrying_lot(frame, "f"), world.closure(found))

    def test_parameters(self):
        good = [("solid", SQUARE), ("fields", F), ("field", "f"), ("point", (2, 0))]
        check_parameters(self, surplus_of, good, {**FIELD_WRONGS, "point": OFF_POINTS})
        check_parameters(self, carrying_lot, [("frame", FRAME), ("field", "f")], {"field": WRONG_FIELD_NAMES})
        good = [("frame", FRAME), ("field", "f"), ("most", 8)]
        check_parameters(self, thinned_lot, good, {"field": WRONG_FIELD_NAMES, "most": WRONG_NUMBERS})


if __name__ == "__main__":
    unittest.main()
