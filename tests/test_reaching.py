"""Rounds and chains of musts, and what is forced, [56] and [10]."""

import unittest

from musttools import BAR, FLAT, HIGH_POINTS, REFUSING, TEST, draw_known
from tools import SQUARE, check_parameters
from wholefaces.mustclasses import Musts
from wholefaces.reaching import chain_from, forced_chain, forced_of, forced_rounds, reached_from, rounds_from
from worlds import OFF_POINT_ROWS, OFF_POINTS, worlds

POINT_ROWS = OFF_POINT_ROWS + (((2, 2), (1, 1)), ((2, 2), BAR), (BAR,))
THINGS = OFF_POINTS + HIGH_POINTS + ("bar ", "Bar", ("bar",), [BAR])


class ReachingTest(unittest.TestCase):

    def test_example(self):
        musts = Musts(FLAT, TEST)
        self.assertEqual(forced_rounds(musts), ((((2, 2), None),), (((2, 0), (2, 2)),)))
        self.assertEqual(forced_of(musts), ((2, 2), (2, 0)))
        self.assertEqual(forced_chain(musts, (2, 0)), ((2, 2), (2, 0)))
        self.assertIsNone(forced_chain(musts, (0, 2)))
        self.assertIsNone(forced_chain(musts, BAR))
        self.assertEqual((rounds_from(musts, ()), reached_from(musts, ()), chain_from(musts, (), (2, 2))), ((), (), None))
        self.assertEqual(forced_chain(Musts(FLAT, REFUSING), BAR), ((2, 2), (2, 0), BAR))
        self.assertEqual(forced_of(Musts(FLAT, REFUSING)), ((2, 2), (2, 0), BAR))

    def test_drawn_musts(self):
        rolls, made = worlds(561, 60)
        for world in made:
            frame, test, known = draw_known(rolls, world)
            musts = Musts(frame, test)
            self.assertEqual(forced_rounds(musts), known.rounds(known.sources))
            self.assertEqual(forced_of(musts), known.order(known.forced()))
            for thing in known.points[:30] + (BAR,):
                self.assertEqual(forced_chain(musts, thing), known.chain(known.sources, thing))
            for _ in range(3):
                points = tuple(rolls.choice(known.points) for _ in range(rolls.randrange(4))) if known.points else ()
                self.assertEqual(rounds_from(musts, points), known.rounds(points))
                self.assertEqual(reached_from(musts, points), known.order(known.reached(points)))
                for thing in rolls.sample(known.points, min(5, len(known.points))) + [BAR]:
                    self.assertEqual(chain_from(musts, points, thing), known.chain(points, thing))

    def test_chains(self):
        rolls, made = worlds(562, 40)
        for world in made:
            frame, test, known = draw_known(rolls, world)
            musts = Musts(frame, test)
            for thing in forced_of(musts):
                chain = forced_chain(musts, thing)
                self.assertIn(chain[0], musts.sources())
                self.assertEqual(chain[-1], thing)
                for one, other in zip(chain, chain[1:]):
                    self.assertIn(other, musts.of(one))
                if thing != BAR:
                    told = {world.key(point)[0] for point in chain}
                    self.assertLessEqual(set(range(world.key(thing)[0] + 1)), told)
            if known.refuses():
                self.assertEqual(forced_chain(musts, BAR)[-1], BAR)

    def test_deep_nought(self):
        musts = Musts((SQUARE, 0, (), ()), ("bad", ((0, ""),)))
        self.assertEqual(forced_rounds(musts), (((BAR, None),),))
        self.assertEqual((forced_of(musts), forced_chain(musts, BAR), rounds_from(musts, ())), ((BAR,), (BAR,), ()))
        self.assertIsNone(chain_from(musts, (), BAR))
        self.assertEqual(forced_rounds(Musts((SQUARE, 0, (), ()), ("bad", ()))), ())

    def test_parameters(self):
        musts = Musts(FLAT, TEST)
        good = [("musts", musts), ("points", ((2, 0), (0, 2), (2, 0)))]
        for function in (rounds_from, reached_from):
            check_parameters(self, function, good, {"points": POINT_ROWS})
        check_parameters(self, chain_from, good + [("thing", (2, 2))], {"points": POINT_ROWS, "thing": THINGS})
        check_parameters(self, forced_chain, [("musts", musts), ("thing", (2, 0))], {"thing": THINGS})
        for function in (forced_rounds, forced_of):
            self.assertEqual(function(musts=musts), function(musts))
        self.assertEqual(chain_from(musts, ((2, 2),), BAR), None)


if __name__ == "__main__":
    unittest.main()
