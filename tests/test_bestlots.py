"""Best lots and papers for them, [93] and [94]; [97]; (G9) and (G10) of [11]."""

import unittest
from fractions import Fraction

from meshtools import FLAT
from musttools import BAR, REFUSING
from test_flows import AMOUNTS, GIFT, NO_FLOWS
from tools import ODDS, SQUARE, check_parameters, deep, pair_of
from wholefaces.bestlots import best_of
from wholefaces.bestpapers import lets_best
from wholefaces.errors import InvalidPaper, NotUsable, Refused
from wholefaces.flows import is_flow
from wholefaces.mustclasses import Musts
from wholefaces.stairpapers import most_worth, stair_paper
from wholefaces.stairs import stairs_of
from worlds import OPEN_LOTS, WRONG_LOTS, World
from worthtools import DEEP_WORTHS, MUSTS, W, WRONG_PRICES, WRONG_WORTHS, draw_flow, markets, owns_oracle, value_oracle

ALL = ((2, 2), (0, 2), (2, 0), (2, 4), (4, 2))
THREE = ((2, 2), (0, 2), (2, 0))


def fault_oracle(known, lots, worths, price, thing):
    """The first fault of a thing whose flow, if it has one, is a flow; or None."""
    lot, flow = thing
    if lot not in lots:
        return "lot", -1
    for k, (p, own) in enumerate(owns_oracle(known, worths, price, flow)):
        if p in lot and own < 0:
            return "low", k
        if p not in lot and own > 0:
            return "high", k
    for k, (p, must, _) in enumerate(flow):
        if p not in lot and must in lot:
            return "into", k
    return None


def turning_prices(world, worths, lots):
    """The prices above nought at which two lots are worth the same."""
    found = set()
    for one in lots:
        for other in lots:
            gain = value_oracle(world, worths, 0, one) - value_oracle(world, worths, 0, other)
            many = sum(len(world.ring[p]) for p in one) - sum(len(world.ring[p]) for p in other)
            if many > 0 and gain > 0:
                found.add(gain / many)
    return sorted(found)


class BestTest(unittest.TestCase):

    def refused(self, thing, word, at, musts=MUSTS, worths=W, price=(3, 4)):
        """Checks that lets_best refuses the thing with these fields."""
        with self.subTest(thing=thing):
            with self.assertRaises(InvalidPaper) as caught:
                lets_best(musts, worths, price, thing)
            self.assertEqual((caught.exception.word, caught.exception.at), (word, at))

    def test_examples(self):
        flow = (((0, 2), (2, 2), (5, 4)), ((2, 0), (2, 2), (13, 4)))
        self.assertEqual(best_of(MUSTS, W, (3, 4)), ((), THREE, (0, 1), flow))
        self.refused(((), (((2, 0), (2, 2), (4, 1)),)), "high", 1)
        self.assertEqual((lets_best(MUSTS, W, (3, 4), ((), flow)), lets_best(MUSTS, W, (3, 4), (THREE, flow))), ((0, 1), (0, 1)))

    def test_prices(self):
        self.assertEqual(best_of(MUSTS, W, (0, 1))[:3], (THREE, ALL, (3, 1)))
        self.assertEqual(best_of(MUSTS, W, (1, 2))[:3], (THREE, THREE, (1, 1)))
        self.assertEqual(best_of(MUSTS, W, (10 ** 39, 1))[:3], ((), (), (0, 1)))
        self.assertEqual(best_of(MUSTS, (), (0, 1)), ((), ALL, (0, 1), ()))
        forced = Musts(FLAT, ("bad", ((1, ""),)))
        self.assertEqual(best_of(forced, W, (10, 1))[:3], (((2, 2),), ((2, 2),), (-23, 1)))
        empty = Musts((SQUARE, 0, (), ()), ("bad", ()))
        self.assertEqual(best_of(empty, (), (5, 1)), ((), (), (0, 1), ()))

    def test_no_lot_passes(self):
        musts = Musts(FLAT, REFUSING)
        for call in (lambda: best_of(musts, W, (1, 1)), lambda: stairs_of(musts, W), lambda: stair_paper(musts, W), lambda: most_worth(musts, W, 9)):
            with self.assertRaises(Refused) as caught:
                call()
            self.assertEqual(caught.exception.chain, ((2, 2), (2, 0), BAR))
        # What is not as stated comes first.
        for call in (lambda: best_of(musts, None, (1, 1)), lambda: best_of(musts, W, (-1, 1)), lambda: stairs_of(musts, None),
                     lambda: stair_paper(musts, None), lambda: most_worth(musts, W, -1)):
            self.assertRaises(NotUsable, call)
        self.refused(((), ()), "lot", -1, musts)

    def test_against_all_lots(self):
        turning = 0
        for rolls, world, musts, known, lots, worths in markets(931, 150):
            turns = turning_prices(world, worths, lots)
            prices = {Fraction(0), Fraction(rolls.randrange(12), rolls.randrange(1, 5)), Fraction(10 ** 40)}
            for price in sorted(prices | set(rolls.sample(turns, min(3, len(turns))))):
                values = {lot: value_oracle(world, worths, price, lot) for lot in lots}
                best = [lot for lot in lots if values[lot] == max(values.values())]
                least, greatest, told, flow = best_of(musts, worths, pair_of(price))
                self.assertEqual(told, pair_of(max(values.values())))
                self.assertEqual((least, greatest), (min(best, key=len), max(best, key=len)))
                for lot in best:
                    self.assertTrue(set(least) <= set(lot) <= set(greatest))
                    for other in best:
                        self.assertIn(world.order(set(lot) & set(other)), best)
                        self.assertIn(world.order(set(lot) | set(other)), best)
                self.assertIs(is_flow(musts, flow), True)
                turning += len(best) > 1
                self.check_papers(rolls, musts, known, lots, worths, price, best, values, flow)
        self.assertGreater(turning, 40)

    def check_papers(self, rolls, musts, known, lots, worths, price, best, values, flow):
        """The flow shows each best lot; no flow shows another one."""
        for lot in rolls.sample(lots, min(12, len(lots))) + best:
            for shown in (flow, draw_flow(rolls, known), ()):
                fault = fault_oracle(known, lots, worths, price, (lot, shown))
                if shown == flow:
                    self.assertEqual(fault is None, lot in best)
                if fault is None:
                    self.assertIn(lot, best)
                    self.assertEqual(lets_best(musts, worths, pair_of(price), (lot, shown)), pair_of(values[lot]))
                else:
                    self.refused((lot, shown), *fault, musts, worths, pair_of(price))

    def test_words(self):
        flow = best_of(MUSTS, W, (3, 4))[3]
        for thing in ODDS + (((), (), ()), ((),), [(), ()], (((), flow),), deep(1, 30)):
            if not (isinstance(thing, tuple) and len(thing) == 2):
                self.refused(thing, "shape", -1)
        for lot in tuple(lot for lot in WRONG_LOTS if lot != ()) + OPEN_LOTS + (((2, 2), (1, 1)), ALL + ((1, 1),)):
            self.refused((lot, flow), "lot", -1)
            self.refused((lot, None), "lot", -1)
        for thing in NO_FLOWS:
            self.refused(((), thing), "flow", -1)
        for amount in AMOUNTS:
            self.refused((THREE, (GIFT[:2] + (amount,),)), "flow", -1)
        self.refused((THREE, ()), "low", 0)
        self.refused((THREE, (((2, 0), (2, 2), (4, 1)),)), "low", 0)
        self.refused((THREE, (((0, 2), (2, 2), (3, 2)), ((2, 0), (2, 2), (13, 4)))), "low", 1)
        self.refused((THREE, (((0, 2), (2, 2), (5, 4)), ((2, 0), (2, 2), (7, 2)))), "low", 2)
        self.refused(((), ()), "high", 1)
        self.refused(((), (((2, 0), (2, 2), (7, 2)), ((2, 4), (2, 2), (1, 1)))), "high", 1)
        self.refused((((2, 2), (2, 0)), (((2, 0), (2, 2), (13, 4)), )), "low", 0)
        # Own values are as they have to be, but a point that is not in the lot gives to one that is.
        rich = (((2, 2), (9, 1)), ((0, 2), (1, 1)))
        self.refused((((2, 2),), (((0, 2), (2, 2), (1, 4)), ((2, 4), (2, 2), (1, 1)))), "into", 0, MUSTS, rich)
        self.refused((((2, 2), (0, 2)), (((0, 2), (2, 2), (1, 4)), ((2, 4), (2, 2), (1, 1)))), "into", 1, MUSTS, rich)
        self.assertEqual(lets_best(MUSTS, rich, (3, 4), (((2, 2), (0, 2)), (((0, 2), (2, 2), (1, 4)),))), (31, 4))

    def test_first_word(self):
        # Of several faults the first one by the list is told; of several points the first one.
        self.refused(((None,), (None,)), "lot", -1)
        self.refused((ALL, ()), "low", 0)
        worths = (((2, 2), (-1, 1)), ((0, 2), (5, 1)), ((2, 0), (-5, 1)))
        self.refused((((2, 2), (2, 0)), (((0, 2), (2, 2), (1, 1)),)), "low", 0, MUSTS, worths, (1, 1))
        self.refused((((2, 2), (2, 0)), (((0, 2), (2, 2), (3, 1)),)), "high", 1, MUSTS, worths, (1, 1))
        self.refused((((2, 2), (2, 0)), (((0, 2), (2, 2), (4, 1)),)), "low", 2, MUSTS, worths, (1, 1))
        self.refused((((2, 2),), (((0, 2), (2, 2), (4, 1)),)), "into", 0, MUSTS, worths, (1, 1))

    def test_flows_ascend(self):
        # (2, 2), which stands first in order, gives, and so does (0, 2), which is first ascending.
        musts = Musts(FLAT, ("bad", ((1, "0"),)))
        worths = (((2, 2), (5, 1)), ((0, 2), (2, 1)), ((2, 0), (-8, 1)))
        flow = best_of(musts, worths, (0, 1))[3]
        self.assertEqual(flow, (((0, 2), (2, 2), (2, 1)), ((2, 2), (2, 0), (7, 1))))
        self.assertEqual(lets_best(musts, worths, (0, 1), ((), flow)), (0, 1))

    def test_unlike_bottoms(self):
        worths = tuple((p, pair_of(Fraction(k * k - 7, k + 2))) for k, p in enumerate(MUSTS.all_points()))
        least, greatest, told, flow = best_of(MUSTS, worths, (1, 97))
        self.assertEqual(lets_best(MUSTS, worths, (1, 97), (least, flow)), told)
        self.assertEqual(lets_best(MUSTS, worths, (1, 97), (greatest, flow)), told)
        self.assertEqual(pair_of(value_oracle(World(SQUARE), worths, Fraction(1, 97), least)), told)

    def test_parameters(self):
        wrong = {"worths": WRONG_WORTHS + DEEP_WORTHS, "price": WRONG_PRICES}
        check_parameters(self, best_of, [("musts", MUSTS), ("worths", W), ("price", (1, 2))], wrong)
        thing = ((), best_of(MUSTS, W, (3, 4))[3])
        check_parameters(self, lets_best, [("musts", MUSTS), ("worths", W), ("price", (3, 4)), ("thing", thing)], wrong)
        for price in WRONG_PRICES:
            with self.assertRaises(NotUsable):
                lets_best(MUSTS, W, price, None)


if __name__ == "__main__":
    unittest.main()
