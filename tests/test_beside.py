"""What lies beside what in meshes, [73]; [80]; (G2) of [11]."""

import unittest

from meshtools import M, draw_mesh, sides_of
from tools import PAIR, PLANE, SQUARE, WRONG_NUMBERS, WRONG_POINTS, check_parameters
from wholefaces.beside import beside_of, border_of, round_point
from wholefaces.meshclasses import Mesh
from wholefaces.roots import cube_roots
from worlds import OFF_NAMES, worlds


class BesideTest(unittest.TestCase):

    def test_examples(self):
        self.assertEqual((beside_of(M, (1, "00"), 0), beside_of(M, (1, "00"), 2)), ((1, "01"), None))
        self.assertEqual(border_of(M)[3], (((2, 0), (4, 0)), (1, "01")))
        self.assertEqual(round_point(M, (2, 0)), ((1, "00"), (1, "01")))

    def test_drawn_meshes(self):
        rolls, made = worlds(731, 60)
        for world in made:
            mesh, lot, leaves = draw_mesh(rolls, world)
            book = sides_of(leaves)
            border = [(tuple(sorted(side)), names[0]) for side, names in book.items() if len(names) == 1]
            self.assertEqual(border_of(mesh), tuple(sorted(border)))
            for name in rolls.sample(list(leaves), min(6, len(leaves))):
                self.check_block(mesh, leaves, book, name)
            for point in rolls.sample(mesh.corners(), min(5, len(mesh.corners()))):
                self.assertEqual(round_point(mesh, point), tuple(name for name, block in leaves.items() if point in block))

    def check_block(self, mesh, leaves, book, name):
        """What lies across each side of a block; from there it leads back."""
        block = leaves[name]
        for corner in range(len(block)):
            side = frozenset(block[:corner] + block[corner + 1:])
            others = [other for other in book[side] if other != name]
            self.assertLessEqual(len(others), 1)
            told = beside_of(mesh, name, corner)
            self.assertEqual(told, others[0] if others else None)
            if others:
                self.assertLessEqual(abs(len(told[1]) - len(name[1])), 1)
                back = [beside_of(mesh, told, k) for k in range(len(block)) if leaves[told][k] not in side]
                self.assertEqual(back, [name])

    def test_many_roots(self):
        mesh = Mesh((PLANE, tuple(sorted(root for x in range(-3, 3) for root in cube_roots(PLANE, (x, 0))))), ())
        names = [name for _, name in border_of(mesh)]
        self.assertEqual(len(names), 14)
        self.assertEqual(round_point(mesh, (8, 0)), ((8, ""), (9, ""), (10, ""), (11, "")))

    def test_parameters(self):
        names = OFF_NAMES + ((1, "0"), (1, ""), (1, "000"), (0, "00"))
        corners = WRONG_NUMBERS + (3, 10 ** 59)
        check_parameters(self, beside_of, [("mesh", M), ("name", (1, "00")), ("corner", 0)], {"name": names, "corner": corners})
        # (True, "00") is the name of no block, although it equals one that is.
        points = WRONG_POINTS + ((0, 2), (1, 1), (8, 0), (4, True))
        check_parameters(self, round_point, [("mesh", M), ("point", (2, 0))], {"point": points + (((2, 0),), (8, 8))})
        finer = Mesh(SQUARE, ((2, 2), (0, 2), (2, 0), (1, 1)))
        check_parameters(self, round_point, [("mesh", finer), ("point", (1, 1))], {"point": ((True, 1), (1, True), (True, True), [1, 1])})
        self.assertEqual(border_of(mesh=M), border_of(M))
        self.assertEqual(len(border_of(Mesh(PAIR, ()))), 6)


if __name__ == "__main__":
    unittest.main()
