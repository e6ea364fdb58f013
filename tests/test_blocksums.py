"""Sums of quotients over blocks, [47]."""

import unittest
from fractions import Fraction

from tools import PAIR, SQUARE, check_parameters, pair_of
from wholefaces.blocksums import gain_of, sum_by_points, sum_over
from wholefaces.meshclasses import Mesh
from worlds import OFF_POINTS, worlds

TABLE = (((0, ""), (1, 2)), ((0, "0"), (-1, 3)), ((1, "00"), (5, 1)))
WRONG_TABLES = (None, True, 0, "", [], [((0, ""), (1, 2))], ((0, ""), (1, 2)), (((0, ""), (1, 2)), ((0, ""), (1, 3))),
                (((0, "0"), (1, 2)), ((0, ""), (1, 2))), (((1, ""), (1, 2)), ((0, "1"), (1, 2))), (((2, ""), (1, 2)),),
                (((0, "00000"), (1, 2)),), (((0, ""), (2, 4)),), (((0, ""), (1, 0)),), (((0, ""), (1, -2)),), (((0, ""), (0, 2)),),
                (((0, ""), 1),), (((0, ""), (True, 2)),), (((True, ""), (1, 2)),), (((False, ""), (1, 2)),), (((0, ""), [1, 2]),),
                (((0, ""), (1, 2), 3),), (((0, ""),),), (TABLE[0], None), ([(0, ""), (1, 2)],), (((0, "2"), (1, 2)),), ((("r0", ""), (1, 2)),))


def draw_table(rolls, world):
    """A table, with quotients below nought and great ones."""
    names = sorted(rolls.sample(world.names, min(len(world.names), rolls.randrange(30))))
    tops = (-7, -1, 0, 1, 2, 5, 10 ** 40, -10 ** 40 + 3)
    return tuple((name, pair_of(Fraction(rolls.choice(tops), rolls.choice((1, 2, 3, 7, 10 ** 40 - 1))))) for name in names)


class BlockSumsTest(unittest.TestCase):

    def test_small_sums(self):
        mesh = Mesh(SQUARE, ((2, 2), (2, 0)))
        self.assertEqual(sum_over(mesh, TABLE), (14, 3))
        self.assertEqual(sum_over(Mesh(SQUARE, ()), TABLE), (1, 2))
        self.assertEqual(sum_by_points(mesh, TABLE), (14, 3))
        self.assertEqual(gain_of(SQUARE, TABLE, (2, 2)), (-5, 6))
        self.assertEqual(gain_of(SQUARE, TABLE, (2, 0)), (5, 1))
        self.assertEqual(gain_of(SQUARE, TABLE, (1, 1)), (-5, 1))
        self.assertEqual((sum_over(mesh, ()), sum_by_points(mesh, ()), gain_of(SQUARE, (), (2, 2))), ((0, 1),) * 3)

    def test_drawn_tables(self):
        rolls, made = worlds(471, 40)
        for world in made:
            table = draw_table(rolls, world)
            worth = {name: Fraction(*quotient) for name, quotient in table}
            lot = world.draw_lot(rolls)
            mesh = Mesh(world.solid, lot)
            total = pair_of(sum((worth.get(name, Fraction(0)) for name in world.leaves(lot)), Fraction(0)))
            self.assertEqual(sum_over(mesh, table), total)
            self.assertEqual(sum_by_points(mesh, table), total)
            for point in rolls.sample(world.points, min(9, len(world.points))):
                gain = sum((worth.get((n, path + "0"), 0) + worth.get((n, path + "1"), 0) - worth.get((n, path), 0)
                            for n, path in world.ring[point]), Fraction(0))
                self.assertEqual(gain_of(world.solid, table, point), pair_of(gain))

    def test_great_table(self):
        rolls, made = worlds(472, 20)
        world = max(made, key=lambda one: len(one.names))
        table = tuple((name, (k + 1, 1)) for k, name in enumerate(world.names[:300]))
        mesh = Mesh(world.solid, world.points)
        worth = dict(table)
        total = sum(worth.get(name, (0, 1))[0] for name in mesh.block_names())
        self.assertEqual(sum_over(mesh, table), (total, 1))
        self.assertEqual(sum_by_points(mesh, table), (total, 1))

    def test_parameters(self):
        mesh = Mesh(SQUARE, ((2, 2), (2, 0)))
        for function in (sum_over, sum_by_points):
            check_parameters(self, function, [("mesh", mesh), ("table", TABLE)], {"table": WRONG_TABLES})
        wrong = {"table": WRONG_TABLES, "point": OFF_POINTS}
        check_parameters(self, gain_of, [("solid", SQUARE), ("table", TABLE), ("point", (2, 0))], wrong)
        table = (((3, "0000"), (1, 1)),)
        self.assertEqual(sum_over(Mesh(PAIR, ()), table), (0, 1))


if __name__ == "__main__":
    unittest.main()
