"""Worths, [91]; [97]."""

import unittest
from fractions import Fraction

from meshtools import FLAT, ONE, WRONG_FIELD_NAMES, X, as_fraction, draw_fields, value
from musttools import draw_frame, draw_sum, sum_oracle
from test_quantities import WRONG_SUMS
from tools import CUBE, SQUARE, check_parameters, pair_of
from wholefaces.worths import block_worths, field_worths, value_of_lot, worth_of
from worlds import OPEN_LOTS, WRONG_LOTS, World, worlds
from worthtools import DEEP_WORTHS, W, WRONG_PRICES, WRONG_WORTHS, draw_worths, value_oracle, worth_oracle


class WorthsTest(unittest.TestCase):

    def test_examples(self):
        self.assertEqual(block_worths(FLAT, ONE), (((2, 2), (2, 1)), ((0, 2), (1, 1)), ((2, 0), (1, 1)), ((2, 4), (1, 1)), ((4, 2), (1, 1))))
        self.assertEqual(field_worths(FLAT, "f")[1], ((0, 2), (0, 1)))
        self.assertEqual(value_of_lot(SQUARE, W, (1, 2), ((2, 2), (0, 2), (2, 0))), (1, 1))
        self.assertEqual((worth_of(SQUARE, W, ((2, 2), (0, 2), (2, 0))), worth_of(SQUARE, W, ()), worth_of(SQUARE, (), ((2, 2),))),
                         ((3, 1), (0, 1), (0, 1)))
        self.assertEqual(value_of_lot(SQUARE, (), (1, 3), ((2, 2), (2, 0), (2, 4))), (-4, 3))

    def test_deep_nought(self):
        frame = (SQUARE, 0, (), (("f", X),))
        self.assertEqual((block_worths(frame, ONE), field_worths(frame, "f")), ((), ()))

    def test_sums_of_meshes(self):
        rolls, made = worlds(911, 45, 2, 1)
        for world in made:
            frame = draw_frame(rolls, world, 60, named=False)[:3] + (draw_fields(rolls, world.dims, 1),)
            parts = draw_sum(rolls, frame)
            worths = block_worths(frame, parts)
            self.assertEqual(tuple(point for point, _ in worths), world.below(frame[1]))
            told = {}
            for name in world.names:
                if len(name[1]) <= frame[1]:
                    told[name] = sum_oracle(world, frame, parts, name)
            for point, worth in worths:
                gain = sum(told[(number, path + "0")] + told[(number, path + "1")] - told[(number, path)] for number, path in world.ring[point])
                self.assertEqual(as_fraction(worth), gain)
            roots = sum(told[(k, "")] for k in range(len(world.roots)))
            for _ in range(4):
                lot = world.closure([point for point in world.draw_points(rolls) if point in world.below(frame[1])])
                over = sum(told[name] for name in world.leaves(lot))
                self.assertEqual(worth_of(world.solid, worths, lot), pair_of(over - roots))

    def test_drawn_fields(self):
        rolls, made = worlds(912, 20)
        for world in made:
            frame = draw_frame(rolls, world, 100, named=False)[:3] + (draw_fields(rolls, world.dims),)
            for field in "fg":
                told = field_worths(frame, field)
                self.assertEqual(told, tuple((point, (value(frame[3], field, point), 1)) for point in world.below(frame[1])))

    def test_drawn_lots(self):
        rolls, made = worlds(913, 40)
        for world in made:
            worths = draw_worths(rolls, world.points[:40])
            for lot in (world.draw_lot(rolls), world.closure(world.draw_points(rolls))):
                self.assertEqual(worth_of(world.solid, worths, lot), pair_of(worth_oracle(worths, lot)))
                for price in (Fraction(0), Fraction(rolls.randrange(20), rolls.randrange(1, 9)), Fraction(10 ** 40, 3)):
                    self.assertEqual(value_of_lot(world.solid, worths, pair_of(price), lot), pair_of(value_oracle(world, worths, price, lot)))

    def test_points_of_all_generations(self):
        # A worth may be one of any point of the solid, in order.
        world = World(CUBE)
        worths = tuple((point, (k + 1, 1)) for k, point in enumerate(world.points))
        self.assertEqual(worth_of(CUBE, worths, world.points), (len(world.points) * (len(world.points) + 1) // 2, 1))
        self.assertEqual(worth_of(SQUARE, DEEP_WORTHS[1], ((2, 2),)), (1, 1))

    def test_parameters(self):
        check_parameters(self, block_worths, [("frame", FLAT), ("parts", ONE)], {"parts": WRONG_SUMS + (("sum", ((1, ("error", "g")),)),)})
        check_parameters(self, field_worths, [("frame", FLAT), ("field", "f")], {"field": WRONG_FIELD_NAMES})
        lots = WRONG_LOTS + OPEN_LOTS
        check_parameters(self, worth_of, [("solid", SQUARE), ("worths", W), ("lot", ((2, 2), (2, 0)))], {"worths": WRONG_WORTHS, "lot": lots})
        good = [("solid", SQUARE), ("worths", W), ("price", (1, 2)), ("lot", ((2, 2), (2, 0)))]
        check_parameters(self, value_of_lot, good, {"worths": WRONG_WORTHS, "price": WRONG_PRICES, "lot": lots})


if __name__ == "__main__":
    unittest.main()
