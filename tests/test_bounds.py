"""What separates straight values over finer and finer meshes, [85]; [89]."""

import unittest
from fractions import Fraction

from meshtools import (F, FIELD_WRONGS, M, MARKED_FIELDS, MESH, OFF_PLACES, WRONG_DEEPS, as_fraction, draw_fields, draw_mesh, draw_some_place,
                       holding, place_weights, straight, surplus, value)
from tools import check_parameters, pair_of
from wholefaces.bounds import bound_at, parts_at
from wholefaces.errors import NotUsable
from worlds import worlds


def way_oracle(world, leaves, deep, place):
    """The names of the blocks on the way to a place."""
    names = [holding(leaves, place)[0]]
    while len(names[-1][1]) < deep:
        number, path = names[-1]
        low = min(place_weights(world.blocks[(number, path + "0")], place)) >= 0
        names.append((number, path + ("0" if low else "1")))
    return names


class BoundsTest(unittest.TestCase):

    def test_examples(self):
        self.assertEqual((parts_at(MESH, F, "f", 2, (1, 0, 1)), bound_at(MESH, F, "f", 2, (1, 0, 1))), ((((2, 0), -8, (1, 2)),), (4, 1)))
        self.assertEqual((parts_at(MESH, F, "f", 1, (1, 0, 1)), bound_at(MESH, F, "f", 1, (1, 0, 1))), ((), (0, 1)))
        # At a corner the middle does not count.
        self.assertEqual(parts_at(MESH, F, "f", 2, (0, 0, 1)), (((0, 2), 0, (0, 1)),))
        self.assertEqual(parts_at(MESH, MARKED_FIELDS, "g", 2, (1, 0, 1)), (((2, 0), -8, (1, 2)),))

    def test_drawn_meshes(self):
        rolls, made = worlds(851, 50)
        halves = 0
        for world in made:
            mesh, lot, leaves = draw_mesh(rolls, world, 2)
            fields, least = draw_fields(rolls, world.dims), max(len(path) for _, path in leaves)
            for _ in range(5):
                place, field = draw_some_place(rolls, world, leaves), rolls.choice("fg")
                deep = rolls.choice((least, world.top, rolls.randrange(least, world.top + 1)))
                if not holding(leaves, place):
                    for function in (parts_at, bound_at):
                        with self.assertRaises(NotUsable) as caught:
                            function(mesh, fields, field, deep, place)
                        self.assertEqual((caught.exception.word, caught.exception.at), ("place", -1))
                    continue
                names = way_oracle(world, leaves, deep, place)
                parts = []
                for name, later in zip(names, names[1:]):
                    middle, block = world.middle[name], world.blocks[later]
                    weight = place_weights(block, place)[block.index(middle)]
                    parts.append((middle, surplus(world, fields, field, middle), pair_of(weight)))
                told = parts_at(mesh, fields, field, deep, place)
                self.assertEqual(told, tuple(parts))
                bound = bound_at(mesh, fields, field, deep, place)
                self.assertEqual(bound, pair_of(Fraction(sum(abs(part[1]) for part in parts), 2)))
                self.check_sum(world, fields, field, names, place, told, bound)
                halves += any("1" in later[1][len(names[0][1]):] for later in names)
        self.assertGreater(halves, 30)

    def check_sum(self, world, fields, field, names, place, parts, bound):
        """The parts added are what the straight value in the last block is more than in the first."""
        first, last = [straight(fields, field, world.blocks[name], place) for name in (names[0], names[-1])]
        self.assertEqual(sum(surplus * as_fraction(weight) for _, surplus, weight in parts) / 2, last - first)
        self.assertLessEqual(abs(last - first), as_fraction(bound))
        deep = len(names[-1][1])
        if place[-1] == 1 and (not world.is_new(place[:-1]) or world.key(place[:-1])[0] < deep):
            self.assertEqual(last, value(fields, field, place[:-1]))

    def test_parameters(self):
        good = [("mesh", MESH), ("fields", F), ("field", "f"), ("deep", 2), ("place", (1, 0, 1))]
        for function in (parts_at, bound_at):
            check_parameters(self, function, [("mesh", M)] + good[1:], {"deep": WRONG_DEEPS + (1,)})
            check_parameters(self, function, good, {**FIELD_WRONGS, "deep": WRONG_DEEPS, "place": OFF_PLACES})


if __name__ == "__main__":
    unittest.main()
