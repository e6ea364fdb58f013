"""What bodies share, and whether they fill a solid, [78]; [80]; (G7) of [11]."""

import random
import unittest

from bodytools import draw_beside, draw_body, part_oracle
from meshtools import draw_mesh, measure
from test_meeting import TETRA, WRONG_OTHERS
from tools import CUBE, LOW, PAIR, PLANE, R0, R1, SQUARE, check_parameters
from wholefaces.filling import fills, part_in
from wholefaces.meshclasses import Mesh
from worlds import worlds

OTHER = (((0, 0), (4, 0), (0, 4)), ((4, 0), (0, 4), (4, 4)))
FLAT_BODY = ((0, 0), (1, 1), (2, 2))
# The cube of CUBE in five bodies: four corners cut off, and the middle.
FIVE = (((0, 0, 0), (2, 0, 0), (0, 2, 0), (0, 0, 2)), ((2, 2, 0), (2, 0, 0), (0, 2, 0), (2, 2, 2)), ((2, 0, 2), (2, 0, 0), (0, 0, 2), (2, 2, 2)),
        ((0, 2, 2), (0, 2, 0), (0, 0, 2), (2, 2, 2)), ((2, 0, 0), (0, 2, 0), (0, 0, 2), (2, 2, 2)))
WRONG_BODIES = (None, True, 0, "", [], [R0], R0, (R0, TETRA), (TETRA,), (R0, None), (R0[:2],), (R0, list(R1)), (((0, 0), (4, 0), (4, True)),), (R0, ()))


class FillingTest(unittest.TestCase):

    def test_examples(self):
        self.assertEqual(part_in(((0, 0), (3, 0), (3, 3)), ((0, 0), (3, 0), (0, 3))), (9, 2))
        self.assertEqual((fills(SQUARE, OTHER), fills(SQUARE, (R0,)), fills((PLANE, (R0,)), (R1,))), (None, ("measure", -1), ("outside", 0)))

    def test_parts(self):
        self.assertEqual((part_in(R0, R0), part_in(R0, R1), part_in(R0, LOW)), ((16, 1), (0, 1), (0, 1)))
        self.assertEqual((part_in(R1, LOW), part_in(LOW, R1)), ((8, 1), (8, 1)))
        self.assertEqual(part_in(R0, ((100, 0), (101, 0), (100, 1))), (0, 1))
        self.assertEqual(part_in(R0, ((4, 4), (9, 4), (9, 9))), (0, 1))
        self.assertEqual(part_in(TETRA, tuple(tuple(2 * n for n in corner) for corner in TETRA)), (8, 1))
        self.assertEqual(part_in(FIVE[4], FIVE[0]), (0, 1))
        self.assertEqual(part_in(FIVE[4], tuple(tuple(2 - n for n in corner) for corner in FIVE[4])), (8, 1))
        self.assertEqual(part_in(((0, 0), (2, 0), (0, 2)), ((1, 0), (-1, 0), (0, 3))), (5, 2))

    def test_drawn_parts(self):
        rolls, some = random.Random(78), 0
        for k in range(120):
            dims = 2 if k % 3 else 3
            body = draw_body(rolls, dims)
            other = draw_beside(rolls, body) if rolls.randrange(3) == 0 else draw_body(rolls, dims)
            told = part_in(body, other)
            self.assertEqual(told, part_oracle(body, other))
            self.assertEqual(told, part_in(other, body))
            some += told[0] > 0
        self.assertGreater(some, 40)

    def test_parts_of_halves(self):
        rolls, made = worlds(781, 12, 2, 1, 2)
        for world in made:
            body = draw_body(rolls, world.dims, 3)
            for name, block in list(world.blocks.items())[:6]:
                halves = [world.blocks[(name[0], name[1] + figure)] for figure in "01" if (name[0], name[1] + figure) in world.blocks]
                if halves:
                    low, high = [part_in(body, half) for half in halves]
                    top, bottom = part_in(body, block)
                    self.assertEqual((low[0] * high[1] + high[0] * low[1]) * bottom, top * low[1] * high[1])

    def test_answers_in_sequence(self):
        far = ((40, 0), (44, 0), (40, 4))
        self.assertEqual(fills(SQUARE, ()), ("measure", -1))
        self.assertEqual(fills(SQUARE, (far, R0, FLAT_BODY, R0, FLAT_BODY)), ("flat", 2))
        self.assertEqual(fills(SQUARE, (far, R0, R1, LOW)), ("meets", 1))
        self.assertEqual(fills(SQUARE, (far, R1, LOW)), ("meets", 1))
        self.assertEqual(fills(SQUARE, (far, R0, R0)), ("meets", 1))
        self.assertEqual(fills(SQUARE, (R0, far, R1)), ("outside", 1))
        self.assertEqual(fills(SQUARE, (far, R0)), ("outside", 0))
        self.assertEqual(fills(SQUARE, (R0, R1, far)), ("outside", 2))
        self.assertEqual(fills(SQUARE, (R1,)), ("measure", -1))
        self.assertEqual(fills(SQUARE, (R1[::-1], R0)), None)
        # It lies in both roots together, in none of them alone.
        self.assertEqual(fills(SQUARE, (((0, 0), (4, 0), (0, 4)),)), ("measure", -1))
        self.assertEqual(fills(SQUARE, (((0, 0), (5, 0), (0, 4)),)), ("outside", 0))
        self.assertEqual(fills((PLANE, (R0,)), OTHER), ("outside", 0))
        self.assertEqual(fills(PAIR, OTHER), ("measure", -1))

    def test_other_bodies_in_space(self):
        self.assertEqual(fills(CUBE, FIVE), None)
        self.assertEqual(fills(CUBE, FIVE[::-1]), None)
        self.assertEqual(fills(CUBE, CUBE[1]), None)
        self.assertEqual(fills(CUBE, FIVE[:4]), ("measure", -1))
        self.assertEqual(fills(CUBE, FIVE + (CUBE[1][0],)), ("meets", 0))
        self.assertEqual(fills(CUBE, FIVE[1:4] + FIVE[4:] + FIVE[1:2]), ("meets", 0))

    def test_drawn_fills(self):
        rolls, made = worlds(782, 90, 2, 1, 3)
        tried = 0
        for world in made:
            mesh, lot, leaves = draw_mesh(rolls, world, 1)
            if not 2 <= len(leaves) <= 10:
                continue
            tried += 1
            bodies = [tuple(rolls.sample(block, len(block))) for block in leaves.values()]
            rolls.shuffle(bodies)
            self.assertIsNone(fills(world.solid, tuple(bodies)))
            k = rolls.randrange(len(bodies))
            self.assertEqual(fills(world.solid, tuple(bodies[:k] + bodies[k + 1:])), ("measure", -1))
            j = rolls.randrange(len(bodies))
            twice = bodies[:j] + [bodies[k]] + bodies[j:]
            self.assertEqual(fills(world.solid, tuple(twice)), ("meets", min(j, k + (j <= k))))
            step = [rolls.choice((0, 1)) for _ in range(world.dims - 1)] + [1]
            moved = tuple(tuple(a + 100 * b for a, b in zip(corner, step)) for corner in bodies[k])
            self.assertEqual(fills(world.solid, tuple(bodies[:k] + [moved] + bodies[k + 1:])), ("outside", k))
            self.assertEqual(fills(world.solid, tuple(bodies + [moved])), ("outside", len(bodies)))
            flat = bodies[k][:-1] + bodies[k][:1]
            self.assertEqual(fills(world.solid, tuple(bodies[:k] + [flat] + bodies[k:])), ("flat", k))
            self.assertEqual(sum(measure(body) for body in bodies), sum(measure(root) for root in world.roots))
        self.assertGreater(tried, 30)

    def test_other_diagonal(self):
        mesh = Mesh(PAIR, ((2, 2),))
        bodies = list(mesh.blocks())
        # (4, 4), (0, 4), (2, 2) and its neighbour below, about the diagonal from (2, 2) to (4, 4).
        one, other = ((0, 4), (4, 4), (2, 2)), ((4, 0), (4, 4), (2, 2))
        turned = [((0, 4), (4, 0), (2, 2)), ((0, 4), (4, 0), (4, 4))]
        rest = [body for body in bodies if set(body) not in (set(one), set(other))]
        self.assertEqual(len(rest), len(bodies) - 2)
        self.assertEqual(fills(PAIR, tuple(rest + turned))[0], "flat")
        # Two roots beside one another make a body with four corners; its other diagonal does as well.
        across = (((0, 0), (0, 4), (4, 0)), ((0, 4), (4, 4), (4, 0)))
        self.assertIsNone(fills(PAIR, across + PAIR[1][2:]))
        self.assertEqual(fills(PAIR, across[:1] + PAIR[1][1:]), ("meets", 0))

    def test_parameters(self):
        check_parameters(self, part_in, [("body", R0), ("other", LOW)], {"other": WRONG_OTHERS})
        check_parameters(self, part_in, [("body", TETRA), ("other", FIVE[0])], {"other": (R0, None, TETRA[:3], TETRA[:3] + (TETRA[0],))})
        check_parameters(self, fills, [("solid", SQUARE), ("bodies", OTHER)], {"bodies": WRONG_BODIES})


if __name__ == "__main__":
    unittest.main()
