"""Solids, [39] and [7]."""

import random
import unittest
from itertools import permutations, product

from test_regions import WRONG_REGION, WRONG_REGIONS, oracle_status
from tools import CUBE, LOW, ODDS, PAIR, PLANE, R0, R1, SQUARE, TINY, WRONG_BLOCKS, check_parameters, deep, oracle_roots
from trees import random_region
from wholefaces.errors import CutRoot, EmptySolid, NotUsable
from wholefaces.solids import is_solid, solid_from, solid_of

ALL = ("all",)
NONE = ("not", ALL)


class SolidsTest(unittest.TestCase):

    def test_is_solid(self):
        for thing in (SQUARE, PAIR, CUBE, (PLANE, (R0,)), ((3, 0), (oracle_roots((3, 0), (1, 2, 3))[4],))):
            self.assertIs(is_solid(thing), True)
        for thing in ODDS + (
                PLANE, (PLANE, ()), (PLANE, (R1, R0)), (PLANE, (R0, R0)), (PLANE, [R0, R1]), [PLANE, (R0, R1)], (PLANE, R0),
                (PLANE, (R0, R1), 1), (PLANE,), ((2, 3), (R0, R1)), ((2, 1), (R0, R1)), ((3, 2), (R0, R1)), ((True, 2), (R0,)),
                (PLANE, (LOW,)), (PLANE, (TINY,)), (PLANE, (R0, None)), ((2, 10 ** 59), (R0, R1)), (None, (R0,)), deep(SQUARE, 25),
                (PLANE, (((0, 0), (4, 0), (4, 4)), ((0, 0), (0, 4), (4, 4)))), (PLANE, (((0, 0), (4, False), (4, 4)),))):
            self.assertIs(is_solid(thing), False, thing)
        self.assertIs(is_solid(thing=SQUARE), True)

    def test_solid_of(self):
        for roots in ((R0,), (R0, R1), PAIR[1]):
            for order in permutations(roots):
                self.assertEqual(solid_of(PLANE, *order), (PLANE, tuple(sorted(roots))))
        self.assertEqual(solid_of(CUBE[0], *reversed(CUBE[1])), CUBE)

    def check_root(self, roots, k):
        with self.subTest(roots=roots):
            with self.assertRaises(NotUsable) as caught:
                solid_of(PLANE, *roots)
            self.assertEqual((caught.exception.word, caught.exception.at), ("roots", k))

    def test_wrong_roots(self):
        for wrong in WRONG_BLOCKS + (LOW, TINY, ((4, 0), (8, 0), (8, 4)), R0 + R1, [R0]):
            self.check_root((wrong,), 0)
            self.check_root((R0, R1, wrong), 2)
            self.check_root((R0, wrong, None), 1)
            self.check_root((R0, wrong, R0), 1)
        self.check_root((R0, R0), 1)
        self.check_root((R1, R0, R1, None), 2)
        for call in (lambda: solid_of(PLANE), lambda: solid_of(space=PLANE)):
            self.assertRaises(EmptySolid, call)

    def test_solid_from(self):
        self.assertEqual(solid_from(PLANE, ((0, 0),), (), ALL), SQUARE)
        self.assertEqual(solid_from(PLANE, ((0, 0), (1, 0)), (), ALL), PAIR)
        self.assertEqual(solid_from(CUBE[0], ((0, 0, 0),), (), ALL), CUBE)
        self.assertEqual(solid_from(PLANE, ((0, 0), (1, 0)), (), ("box", (0, 0), (4, 4))), SQUARE)
        wall = ("upto", ((0, 1), (1, 1)), 4)
        self.assertEqual(solid_from(PLANE, ((0, 0),), (), ("or", wall, ("not", wall))), SQUARE)
        self.assertEqual(solid_from(PLANE, ((0, 0),), (("a", ("upto", ((0, 1), (1, -1)), 0)),), ("name", "a")), (PLANE, (R0,)))

    def test_errors(self):
        for cubes, region in (((), ALL), ((), NONE), (((0, 0),), NONE), (((0, 0),), ("box", (4, 0), (8, 4)))):
            self.assertRaises(EmptySolid, solid_from, PLANE, cubes, (), region)
        wall = ("upto", ((0, 1),), 2)
        for cubes, root in ((((0, 0),), R0), (((-1, 0), (0, 0)), R0), (((0, 0), (1, 0)), R0)):
            with self.assertRaises(CutRoot) as caught:
                solid_from(PLANE, cubes, (), wall)
            self.assertEqual(caught.exception.root, root)
        with self.assertRaises(CutRoot) as caught:
            solid_from(PLANE, ((0, 0),), (), ("box", (3, 0), (4, 1)))
        self.assertEqual(caught.exception.root, R1)

    def test_random_solids(self):
        rolls = random.Random(81)
        for k in range(120):
            space = ((2, 2), (2, 1), (3, 1))[k % 3]
            unit = 2 ** space[1]
            region = random_region(rolls, space[0], [], 2, unit if k % 4 else 1)
            cubes = tuple(sorted(rolls.sample(list(product((-2, -1, 0, 1), repeat=space[0])), rolls.randrange(6))))
            roots = sorted(root for cube in cubes for root in oracle_roots(space, cube))
            told = [(root, oracle_status(space, (), region, root, 0)) for root in roots]
            cut = [root for root, status in told if status == "cut"]
            found = tuple(root for root, status in told if status == "in")
            if cut:
                with self.assertRaises(CutRoot) as caught:
                    solid_from(space, cubes, (), region)
                self.assertEqual(caught.exception.root, cut[0])
            elif not found:
                self.assertRaises(EmptySolid, solid_from, space, cubes, (), region)
            else:
                self.assertEqual(solid_from(space, cubes, (), region), (space, found))
                self.assertIs(is_solid((space, found)), True)

    def test_parameters(self):
        cubes = (None, True, (0, 0), [(0, 0)], ((0, 0), (0, 0)), ((1, 0), (0, 0)), ((0, 0), (1, True)), ((0, 0, 0),), ((0,),),
                 ([0, 0],), ((0, 0), None), "a")
        good = [("space", PLANE), ("cubes", ((0, 0), (1, 0))), ("regions", (("a", ALL),)), ("region", ("name", "a"))]
        check_parameters(self, solid_from, good, {"cubes": cubes, "regions": WRONG_REGIONS, "region": WRONG_REGION})
        # Wrong parameters come ahead of what the right ones would tell.
        good = [("space", PLANE), ("cubes", ()), ("regions", ()), ("region", 5)]
        with self.assertRaises(NotUsable):
            solid_from(**dict(good))


if __name__ == "__main__":
    unittest.main()
