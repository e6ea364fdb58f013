"""Meshes, [43] and [7]."""

import unittest

from tools import CUBE, ODDS, PAIR, PLANE, R0, R1, SQUARE, check_parameters, deep
from wholefaces.errors import NotClosed, NotUsable
from wholefaces.meshclasses import Mesh
from worlds import OFF_POINTS, OPEN_LOTS, WRONG_LOTS, WRONG_SOLIDS, worlds

LOT = ((2, 2), (2, 0))
OTHER_MESHES = (None, True, 0, 5, "mesh", (), LOT, (SQUARE, LOT), [], Mesh(PAIR, LOT), Mesh(CUBE, ()), Mesh((PLANE, (R0,)), ()))


class MeshTest(unittest.TestCase):

    def test_example(self):
        mesh = Mesh(SQUARE, LOT)
        self.assertEqual(mesh.told(), (SQUARE, LOT))
        self.assertEqual(mesh.block_names(), ((0, "0"), (0, "1"), (1, "00"), (1, "01"), (1, "1")))
        self.assertEqual(mesh.blocks()[2], ((0, 0), (2, 0), (2, 2)))
        self.assertEqual(mesh.corners(), ((0, 0), (0, 4), (4, 0), (4, 4), (2, 2), (2, 0)))
        self.assertEqual(len(mesh), 5)
        self.assertIs(mesh.has((2, 0)), True)
        self.assertIs(mesh.has((1, 1)), False)
        self.assertEqual(Mesh(lot=LOT, solid=SQUARE), mesh)

    def test_drawn_meshes(self):
        rolls, made = worlds(431, 36)
        for world in made:
            for _ in range(3):
                lot = world.draw_lot(rolls)
                mesh = Mesh(world.solid, lot)
                leaves = world.leaves(lot)
                self.assertEqual(mesh.told(), (world.solid, lot))
                self.assertEqual(mesh.block_names(), leaves)
                self.assertEqual(mesh.blocks(), tuple(world.blocks[name] for name in leaves))
                self.assertEqual(len(mesh), len(leaves))
                base = tuple(sorted({corner for root in world.roots for corner in root}))
                self.assertEqual(mesh.corners(), base + lot)
                self.assertEqual(set(mesh.corners()), {corner for block in mesh.blocks() for corner in block})
                for point in world.points[:40]:
                    self.assertIs(mesh.has(point), point in lot)
                    self.assertIs(point in mesh, point in lot)

    def test_in(self):
        mesh = Mesh(SQUARE, LOT)
        for thing in OFF_POINTS + ODDS + (LOT, SQUARE, mesh, deep((2, 2), 27), (2, 2, True), [2, 0], (True, 1)):
            self.assertIs(thing in mesh, False, thing)
        self.assertIs((2, 0) in mesh, True)
        self.assertIs((1, 1) in Mesh(SQUARE, ((2, 2), (0, 2), (2, 0), (1, 1))), True)
        self.assertIs((True, 1) in Mesh(SQUARE, ((2, 2), (0, 2), (2, 0), (1, 1))), False)
        self.assertIs((1, True) in Mesh(SQUARE, ((2, 2), (0, 2), (2, 0), (1, 1))), False)
        self.assertIs((0, 2) in mesh, False)

    def test_equal(self):
        mesh = Mesh(SQUARE, LOT)
        self.assertTrue(mesh == Mesh(SQUARE, LOT))
        self.assertFalse(mesh != Mesh(SQUARE, LOT))
        for thing in OTHER_MESHES + (Mesh(SQUARE, LOT[:1]), Mesh(SQUARE, ())):
            self.assertIs(mesh == thing, False)
            self.assertIs(mesh != thing, True)
            self.assertIs(thing == mesh, False)

    def test_and_or(self):
        rolls, made = worlds(432, 30)
        for world in made:
            lot, other = world.draw_lot(rolls), world.draw_lot(rolls)
            one, two = Mesh(world.solid, lot), Mesh(world.solid, other)
            meet, join = one & two, one | two
            self.assertIsInstance(meet, Mesh)
            self.assertIsInstance(join, Mesh)
            self.assertEqual(meet.told(), (world.solid, tuple(p for p in lot if p in other)))
            self.assertEqual(join.told(), (world.solid, world.order(lot + other)))
            self.assertEqual(meet, two & one)
            self.assertEqual(join, two | one)
            self.assertEqual((one.told()[1], two.told()[1]), (lot, other))
            self.assertEqual(one & one, one)
            self.assertEqual(one | Mesh(world.solid, ()), one)

    def test_and_or_with_others(self):
        mesh = Mesh(SQUARE, LOT)
        for other in OTHER_MESHES:
            for call in (lambda: mesh & other, lambda: mesh | other):
                with self.assertRaises(NotUsable) as caught:
                    call()
                self.assertEqual((caught.exception.word, caught.exception.at), ("other", -1))
        self.assertEqual(mesh, Mesh(SQUARE, LOT))

    def test_not_closed(self):
        rolls, made = worlds(433, 24)
        for world in made:
            lot = world.draw_lot(rolls)
            for point in lot[:12]:
                less = tuple(p for p in lot if p != point)
                if world.is_closed(less):
                    self.assertEqual(Mesh(world.solid, less).told()[1], less)
                    continue
                lacking = [p for p in less if point in world.needs[p]]
                with self.assertRaises(NotClosed) as caught:
                    Mesh(world.solid, less)
                self.assertEqual((caught.exception.point, caught.exception.need), (lacking[0], point))
        with self.assertRaises(NotClosed) as caught:
            Mesh(SQUARE, ((2, 0), (1, 1)))
        self.assertEqual((caught.exception.point, caught.exception.need), ((2, 0), (2, 2)))
        for lot in OPEN_LOTS:
            self.assertRaises(NotClosed, Mesh, SQUARE, lot)

    def test_parameters(self):
        check_parameters(self, Mesh, [("solid", SQUARE), ("lot", LOT)], {"solid": WRONG_SOLIDS, "lot": WRONG_LOTS})
        check_parameters(self, Mesh(SQUARE, LOT).has, [("point", (2, 0))], {"point": OFF_POINTS})
        with self.assertRaises(NotUsable):
            Mesh(SQUARE, ((2, 0), (0, 0)))

    def test_results_are_new(self):
        mesh = Mesh(SQUARE, LOT)
        first, second = mesh.told(), mesh.told()
        self.assertEqual(first, second)
        self.assertIsInstance(mesh.blocks(), tuple)
        self.assertIsInstance(mesh.block_names(), tuple)
        self.assertIsInstance(mesh.corners(), tuple)
        self.assertNotIn(R1, mesh.blocks())


if __name__ == "__main__":
    unittest.main()
