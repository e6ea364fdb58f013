"""The least and the greatest lot that passes, and which lots do, [57]; (G5) of [11] and [63]."""

import unittest

from musttools import BAR, FLAT, REFUSING, TEST, draw_known
from tools import ODDS, SQUARE, check_parameters, deep
from wholefaces.errors import Refused
from wholefaces.extremes import first_bad, greatest_of, is_passing, least_of
from wholefaces.mustclasses import Musts
from wholefaces.reaching import forced_chain
from worlds import OPEN_LOTS, WRONG_LOTS, worlds


class ExtremesTest(unittest.TestCase):

    def test_small_cases(self):
        musts = Musts(FLAT, TEST)
        self.assertEqual(least_of(musts), ((2, 2), (2, 0)))
        self.assertEqual(greatest_of(musts), ((2, 2), (0, 2), (2, 0), (2, 4), (4, 2)))
        self.assertEqual(first_bad(musts, ()), (1, ""))
        self.assertEqual(first_bad(musts, ((2, 2),)), (1, "0"))
        self.assertIsNone(first_bad(musts, ((2, 2), (2, 0))))
        self.assertEqual(first_bad(musts, ((2, 2), (0, 2), (2, 0), (1, 1))), (0, "000"))
        self.assertIs(is_passing(musts, ((2, 2), (2, 0))), True)
        self.assertIs(is_passing(musts, ((2, 2),)), False)
        self.assertIs(is_passing(musts, ((2, 2), (0, 2), (2, 0), (1, 1))), False)

    def test_against_all_lots(self):
        rolls, made = worlds(571, 60, 2, 1, 2)
        tried = 0
        for world in made:
            frame, test, known = draw_known(rolls, world, 24)
            musts = Musts(frame, test)
            if len(known.points) > 9:
                continue
            lots = known.passing()
            tried += len(lots) > 1
            for function, best in ((least_of, set.issubset), (greatest_of, set.issuperset)):
                if lots:
                    self.assertEqual([function(musts)], [lot for lot in lots if all(best(set(lot), other) for other in lots)])
                else:
                    with self.assertRaises(Refused) as caught:
                        function(musts)
                    self.assertEqual(caught.exception.chain, forced_chain(musts, BAR))
            for lot in lots[:30]:
                self.assertIs(is_passing(musts, lot), True)
        self.assertGreater(tried, 9)

    def test_drawn_musts(self):
        rolls, made = worlds(572, 60)
        for world in made:
            frame, test, known = draw_known(rolls, world)
            musts = Musts(frame, test)
            if known.refuses():
                for function in (least_of, greatest_of):
                    with self.assertRaises(Refused) as caught:
                        function(musts)
                    self.assertEqual(caught.exception.chain, known.chain(known.sources, BAR))
            else:
                self.assertEqual(least_of(musts), known.least())
                self.assertEqual(greatest_of(musts), known.free_or_forced())
                self.assertIs(is_passing(musts, least_of(musts)), True)
                self.assertIs(is_passing(musts, greatest_of(musts)), True)
            for _ in range(4):
                lot = world.draw_lot(rolls)
                bad = [name for name in world.leaves(lot) if name in known.bad or len(name[1]) > known.deep]
                self.assertEqual(first_bad(musts, lot), bad[0] if bad else None)
                self.assertIs(is_passing(musts, lot), not bad)
                self.assertEqual(known.passes(lot), not bad)
                if known.refuses():
                    self.assertTrue(bad)

    def test_what_is_no_lot(self):
        musts = Musts(FLAT, ("bad", ()))
        for thing in WRONG_LOTS + OPEN_LOTS + ODDS + (deep(((2, 2),), 25), ((2, 2),) * 5000):
            self.assertIs(is_passing(musts, thing), False, thing)
        self.assertIs(is_passing(thing=(), musts=musts), True)

    def test_deep_nought(self):
        frame = (SQUARE, 0, (), ())
        self.assertEqual((least_of(Musts(frame, ("bad", ()))), greatest_of(Musts(frame, ("bad", ())))), ((), ()))
        musts = Musts(frame, ("bad", ((1, ""),)))
        for function in (least_of, greatest_of):
            with self.assertRaises(Refused) as caught:
                function(musts)
            self.assertEqual(caught.exception.chain, (BAR,))
        self.assertEqual(first_bad(musts, ()), (1, ""))
        self.assertEqual(first_bad(musts, ((2, 2),)), (0, "0"))
        self.assertIs(is_passing(Musts(frame, ("bad", ())), ((2, 2),)), False)

    def test_parameters(self):
        check_parameters(self, first_bad, [("musts", Musts(FLAT, TEST)), ("lot", ((2, 2),))], {"lot": WRONG_LOTS + OPEN_LOTS})
        check_parameters(self, first_bad, [("musts", Musts(FLAT, REFUSING)), ("lot", ())], {"lot": WRONG_LOTS + OPEN_LOTS})
        self.assertEqual(least_of(musts=Musts(FLAT, TEST)), greatest_of(musts=Musts(FLAT, TEST))[:1] + ((2, 0),))


if __name__ == "__main__":
    unittest.main()
