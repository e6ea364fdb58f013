"""Pieces of what lies above c, [88]; (G8) of [11]."""

import unittest

from meshtools import F, FIELD_WRONGS, MESH, WRONG_C, draw_fields, draw_mesh, value
from test_skins import draw_c
from tools import CUBE, PAIR, PLANE, check_parameters
from wholefaces.abovepieces import inner_parts, pieces_above
from wholefaces.meshclasses import Mesh
from wholefaces.roots import cube_roots
from worlds import worlds


def pieces_oracle(world, leaves, inner):
    """The classes of inner corners, by joining them block by block."""
    classes = [{corner} for corner in inner]
    for block in leaves.values():
        own = {corner for corner in block if corner in inner}
        joined = set().union(*[one for one in classes if one & own]) if own else set()
        classes = [one for one in classes if not one & own] + ([joined] if own else [])
    rows = [world.order(one) for one in classes]
    return tuple(sorted(rows, key=lambda row: world.key(row[0])))


def far_field(space, points):
    """A field with 0 at these points and less everywhere else: less the least way to one of them, along the directions."""
    ways = []
    for point in points:
        terms = [("abs", ("sum", ((1, ("axis", i)), (-1 if n >= 0 else 1, ("number", abs(n)))))) for i, n in enumerate(point)]
        ways.append(("sum", tuple((1, term) for term in terms)))
    least = ways[0]
    for way in ways[1:]:
        least = ("min", least, way)
    return (("f", ("sum", ((-1, least),))),)


class AbovePiecesTest(unittest.TestCase):

    def test_examples(self):
        self.assertEqual((pieces_above(MESH, F, "f", 8), inner_parts(MESH, F, "f", 8)),
                         ((((4, 0), (4, 4)),), (((0, "1"), (1, "0"), (1, "1")),)))

    def test_apart_and_touching(self):
        # Corners of one block are linked, corners that only share blocks with others are not.
        mesh = Mesh(PAIR, ((2, 2), (6, 2)))
        for points, pieces in ((((0, 0), (8, 4)), 2), (((0, 0), (0, 4)), 1), (((0, 0), (4, 4)), 2), (((0, 0), (4, 4), (2, 2)), 1),
                               (((2, 2), (6, 2)), 2), (((4, 0), (4, 4)), 1)):
            fields = far_field(PLANE, points)
            told = pieces_above(mesh, fields, "f", 0)
            self.assertEqual(len(told), pieces)
            self.assertEqual({corner for piece in told for corner in piece}, set(points))
        fields = far_field(PLANE, ((2, 2), (8, 0), (0, 4)))
        self.assertEqual(pieces_above(mesh, fields, "f", 0), (((0, 4), (2, 2)), ((8, 0),)))
        self.assertEqual(inner_parts(mesh, fields, "f", 0), (((0, "0"), (0, "1"), (1, "0"), (1, "1")), ((2, "0"), (3, "0"))))
        # Two pieces of a block each, that touch in an outer corner: its blocks have none of both.
        fields = far_field(PLANE, ((0, 0), (6, 2)))
        names = inner_parts(mesh, fields, "f", 0)
        self.assertEqual([len(row) for row in names], [2, 4])
        # Blocks that touch in a corner or an edge alone.
        solid = ((3, 1), tuple(sorted(cube_roots((3, 1), (0, 0, 0))[:1] + cube_roots((3, 1), (1, 1, 1))[-1:])))
        mesh = Mesh(solid, ())
        self.assertEqual(pieces_above(mesh, far_field((3, 1), ((0, 0, 0), (4, 4, 4))), "f", 0), (((0, 0, 0),), ((4, 4, 4),)))
        whole = far_field((3, 1), ((0, 0, 0), (2, 2, 2), (4, 4, 4)))
        self.assertEqual(pieces_above(mesh, whole, "f", 0), (((0, 0, 0), (2, 2, 2), (4, 4, 4)),))
        self.assertEqual(inner_parts(mesh, whole, "f", 0), (((0, ""), (1, "")),))

    def test_all_and_none(self):
        mesh = Mesh(CUBE, ())
        self.assertEqual((pieces_above(mesh, F, "f", 5), inner_parts(mesh, F, "f", 5)), ((), ()))
        self.assertEqual((pieces_above(mesh, F, "f", 0), inner_parts(mesh, F, "f", 0)), ((mesh.corners(),), (mesh.block_names(),)))

    def test_drawn_meshes(self):
        rolls, made = worlds(881, 70)
        several = 0
        for world in made:
            mesh, lot, leaves = draw_mesh(rolls, world)
            fields = draw_fields(rolls, world.dims)
            if rolls.randrange(2):
                fields = far_field(world.space, rolls.sample(mesh.corners(), min(4, len(mesh.corners())))) + (("g", ("field", "f")),)
            for field in "fg":
                c = rolls.choice((draw_c(rolls, mesh, fields, field), 0, -1))
                inner = {corner for block in leaves.values() for corner in block if value(fields, field, corner) >= c}
                pieces = pieces_oracle(world, leaves, inner)
                self.assertEqual(pieces_above(mesh, fields, field, c), pieces)
                parts = tuple(tuple(name for name, block in leaves.items() if set(block) & set(piece)) for piece in pieces)
                self.assertEqual(inner_parts(mesh, fields, field, c), parts)
                several += len(pieces) > 1
        self.assertGreater(several, 20)

    def test_parameters(self):
        good = [("mesh", MESH), ("fields", F), ("field", "f"), ("c", 8)]
        for function in (pieces_above, inner_parts):
            check_parameters(self, function, good, {**FIELD_WRONGS, "c": WRONG_C})


if __name__ == "__main__":
    unittest.main()
