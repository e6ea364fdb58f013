"""Which mesh has given bodies, [79]; [80]."""

import unittest

from meshtools import M, draw_mesh
from test_filling import FIVE, FLAT_BODY, OTHER, WRONG_BODIES
from tools import CUBE, PAIR, PLANE, R0, R1, SQUARE, check_parameters
from wholefaces.knowing import known_lot
from wholefaces.meshclasses import Mesh
from worlds import worlds


class KnowingTest(unittest.TestCase):

    def test_examples(self):
        self.assertEqual((known_lot(SQUARE, (((4, 4), (0, 0), (4, 0)), R0)), known_lot(SQUARE, OTHER)), ((), None))

    def test_no_mesh(self):
        blocks = M.blocks()
        self.assertEqual(known_lot(SQUARE, blocks), ((2, 2), (2, 0)))
        self.assertIsNone(known_lot(SQUARE, ()))
        self.assertIsNone(known_lot(SQUARE, (R0,)))
        self.assertIsNone(known_lot(SQUARE, (R0, R1, R0)))
        self.assertIsNone(known_lot(SQUARE, (R0, R0)))
        self.assertIsNone(known_lot(SQUARE, (R0, R1, FLAT_BODY)))
        self.assertIsNone(known_lot(SQUARE, (R0, R1, ((0, 0), (0, 0), (0, 0)))))
        self.assertIsNone(known_lot(SQUARE, PAIR[1]))
        self.assertIsNone(known_lot((PLANE, (R0,)), (R1,)))
        self.assertIsNone(known_lot(CUBE, FIVE))
        # Leaves that do not meet in whole faces: one root halved alone.
        self.assertIsNone(known_lot(SQUARE, (R1, ((0, 0), (0, 4), (2, 2)), ((0, 4), (4, 4), (2, 2)))))
        # A block and its half.
        self.assertIsNone(known_lot(SQUARE, (R0, R1, ((0, 0), (0, 4), (2, 2)))))
        self.assertIsNone(known_lot(SQUARE, blocks + (R1,)))

    def test_drawn_meshes(self):
        rolls, made = worlds(791, 60)
        for world in made:
            mesh, lot, leaves = draw_mesh(rolls, world)
            bodies = [tuple(rolls.sample(block, len(block))) for block in leaves.values()]
            rolls.shuffle(bodies)
            self.assertEqual(known_lot(world.solid, tuple(bodies)), lot)
            k = rolls.randrange(len(bodies))
            rest = bodies[:k] + bodies[k + 1:]
            self.assertIsNone(known_lot(world.solid, tuple(rest)))
            self.assertIsNone(known_lot(world.solid, tuple(bodies + [bodies[k]])))
            moved = tuple((corner[0] + 1000 * (corner == bodies[k][1]),) + corner[1:] for corner in bodies[k])
            self.assertIsNone(known_lot(world.solid, tuple(rest + [moved])))
            if lot and len(bodies) > 1:
                # Two blocks that share all corners but one, exchanged for those round their other diagonal.
                self.check_exchange(world, bodies)
            self.assertIsNone(known_lot(world.solid, tuple(rest + [bodies[k][:-1] + bodies[k][:1]])))

    def check_exchange(self, world, bodies):
        """No mesh has two of its blocks about the other diagonal, but where these are blocks of another one."""
        for one in bodies:
            for other in bodies:
                side = set(one) & set(other)
                if len(side) == len(one) - 1:
                    ends = (set(one) | set(other)) - side
                    turned = [tuple(ends) + tuple(side - {corner}) for corner in side]
                    rest = [body for body in bodies if body not in (one, other)]
                    if len(turned) == 2 and not all(frozenset(body) in map(frozenset, world.name_of) for body in turned):
                        self.assertIsNone(known_lot(world.solid, tuple(rest + turned)))
                    return

    def test_drawn_cuttings(self):
        rolls, made = worlds(792, 80)
        known = 0
        for world in made:
            cutting = world.draw_cutting(rolls)
            names = world.cut_leaves(cutting)
            bodies = [world.blocks[name] for name in names]
            lot = world.order(world.middle[name] for name in cutting)
            whole = world.is_closed(lot) and world.leaves(lot) == names
            known += whole
            self.assertEqual(known_lot(world.solid, tuple(bodies)), lot if whole else None)
        self.assertGreater(known, 20)
        self.assertLess(known, 75)

    def test_parameters(self):
        check_parameters(self, known_lot, [("solid", SQUARE), ("bodies", (R0, R1))], {"bodies": WRONG_BODIES})
        self.assertEqual(known_lot(bodies=Mesh(PAIR, ()).blocks(), solid=PAIR), ())


if __name__ == "__main__":
    unittest.main()
