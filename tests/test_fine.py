"""Errors over meshes, and meshes on which they are small, [82]; [89]; (G8) of [11]."""

import unittest
from fractions import Fraction

from meshtools import F, FIELD_WRONGS, FLAT, FRAME, M, MESH, WRONG_DEEPS, WRONG_FIELD_NAMES, as_fraction, draw_fields, draw_mesh
from musttools import Known, draw_frame, error_oracle, names_within
from tools import SQUARE, WRONG_QUOTIENTS, check_parameters, pair_of
from wholefaces.carrying import carrying_lot
from wholefaces.fine import errors_over, nearest_lot
from wholefaces.meshclasses import Mesh
from worlds import worlds


class FineTest(unittest.TestCase):

    def test_examples(self):
        self.assertEqual(errors_over(MESH, F, "f", 2)[:2], (((0, "0"), (0, 1)), ((0, "1"), (4, 1))))
        self.assertEqual(nearest_lot(FRAME, "f", (7, 2)), ((2, 2), (2, 0), (2, 4)))
        self.assertEqual([error for _, error in errors_over(MESH, F, "f", 1)], [(0, 1)] * 4)
        self.assertEqual([nearest_lot(FRAME, "f", (top, 1)) for top in (4, 5)], [(), ()])
        self.assertEqual(nearest_lot(FLAT, "f", (0, 1)), ())

    def test_drawn_errors(self):
        rolls, made = worlds(821, 36, 2, 1)
        for world in made:
            mesh, lot, leaves = draw_mesh(rolls, world, 2)
            fields = draw_fields(rolls, world.dims)
            least = max(len(path) for _, path in leaves)
            for deep in sorted({least, rolls.randrange(least, world.top + 1), world.top}):
                if len(names_within(world, deep)) > 300:
                    continue
                frame = (world.solid, deep, (), fields)
                for field in "fg":
                    told = errors_over(mesh, fields, field, deep)
                    self.assertEqual(tuple(name for name, _ in told), tuple(leaves))
                    for name, error in rolls.sample(told, min(5, len(told))):
                        self.assertEqual(error, pair_of(error_oracle(world, frame, field, name)))
                        if len(name[1]) == deep:
                            self.assertEqual(error, (0, 1))

    def test_drawn_tolerances(self):
        rolls, made = worlds(822, 30, 2, 1)
        some = 0
        for world in made:
            frame = draw_frame(rolls, world, 60, named=False)[:3] + (draw_fields(rolls, world.dims),)
            for field in "fg":
                errors = {name: error_oracle(world, frame, field, name) for name in names_within(world, frame[1])}
                found = rolls.choice(sorted(set(errors.values())))
                near = Fraction(1, 10 ** 6)
                for tolerance in (Fraction(0), found, max(Fraction(0), found - near), found + near):
                    bad = [name for name, error in errors.items() if error > tolerance]
                    least = Known(world, frame[1], bad).least()
                    self.assertEqual(nearest_lot(frame, field, pair_of(tolerance)), least)
                    some += len(least) > 0
                self.assertEqual(nearest_lot(frame, field, (0, 1)), carrying_lot(frame, field))
        self.assertGreater(some, 40)

    def test_over_the_nearest_mesh(self):
        rolls, made = worlds(823, 20, 2, 1)
        for world in made:
            frame = draw_frame(rolls, world, 60, named=False)[:3] + (draw_fields(rolls, world.dims),)
            tolerance = pair_of(Fraction(rolls.randrange(9), rolls.randrange(1, 4)))
            mesh = Mesh(world.solid, nearest_lot(frame, "g", tolerance))
            for _, error in errors_over(mesh, frame[3], "g", frame[1]):
                self.assertLessEqual(as_fraction(error), as_fraction(tolerance))

    def test_great_tolerances(self):
        fields = (("f", ("product", (("number", 10 ** 9),) * 4 + (("axis", 0),) * 2)),)
        frame = (SQUARE, 2, (), fields)
        self.assertEqual(nearest_lot(frame, "f", (4 * 10 ** 36, 1)), ())
        self.assertEqual(nearest_lot(frame, "f", (4 * 10 ** 36 - 1, 1)), ((2, 2), (2, 0), (2, 4)))
        self.assertEqual(nearest_lot(frame, "f", (4 * 10 ** 39 - 1, 1000)), ((2, 2), (2, 0), (2, 4)))

    def test_parameters(self):
        good = [("mesh", MESH), ("fields", F), ("field", "f"), ("deep", 2)]
        check_parameters(self, errors_over, good, {**FIELD_WRONGS, "deep": WRONG_DEEPS})
        # M has blocks of generations 1 and 2.
        check_parameters(self, errors_over, [("mesh", M)] + good[1:], {"deep": WRONG_DEEPS + (1,)})
        tolerances = WRONG_QUOTIENTS + ((-1, 1), (-1, 2), 0)
        good = [("frame", FRAME), ("field", "f"), ("tolerance", (7, 2))]
        check_parameters(self, nearest_lot, good, {"field": WRONG_FIELD_NAMES, "tolerance": tolerances})


if __name__ == "__main__":
    unittest.main()
