"""Flows, [92]; [97]."""

import unittest
from fractions import Fraction

from meshtools import FLAT
from musttools import HIGH_POINTS, REFUSING
from tools import ODDS, PAIR, check_parameters, deep, pair_of
from wholefaces.flows import is_flow, own_table
from wholefaces.mustclasses import Musts
from worlds import OFF_POINTS
from worthtools import DEEP_WORTHS, MUSTS, W, WRONG_PRICES, WRONG_WORTHS, draw_flow, free_oracle, markets, owns_oracle

GIFT = ((2, 0), (2, 2), (7, 2))
AMOUNTS = (None, True, 1, "1", [1, 1], (1,), (2, 2), (0, 1), (0, 2), (-1, 1), (-1, 2), (True, 1), (1, True), (1, 0), (1, 1, 1))
NO_FLOWS = ODDS + (GIFT, [GIFT], (list(GIFT),), (GIFT[:2],), (GIFT + (1,),), (GIFT, GIFT), (GIFT, ((2, 0), (2, 2), (9, 2))),
                   (GIFT, ((0, 2), (2, 2), (1, 1))), (GIFT, None), (((2, 2), (2, 0), (1, 1)),), (((2, 0), (0, 2), (1, 1)),),
                   (((2, 0), (2, 0), (1, 1)),), (((2, 0), (0, 0), (1, 1)),), (((2, 0), "bar", (1, 1)),), (("bar", (2, 2), (1, 1)),))


class FlowsTest(unittest.TestCase):

    def test_example(self):
        self.assertEqual(own_table(MUSTS, W, (0, 1), (GIFT,)),
                         (((2, 2), (1, 2)), ((0, 2), (2, 1)), ((2, 0), (1, 2)), ((2, 4), (0, 1)), ((4, 2), (0, 1))))
        self.assertIs(is_flow(MUSTS, (GIFT,)), True)
        self.assertIs(is_flow(MUSTS, ()), True)

    def test_what_is_no_flow(self):
        for thing in NO_FLOWS + tuple((GIFT[:2] + (amount,),) for amount in AMOUNTS) + (deep(1, 30), ((deep((2, 0), 29), (2, 2), (1, 1)),)):
            self.assertIs(is_flow(MUSTS, thing), False, thing)
        for point in OFF_POINTS + HIGH_POINTS:
            self.assertIs(is_flow(MUSTS, ((point, (2, 2), (1, 1)),)), False)
            self.assertIs(is_flow(MUSTS, (((2, 0), point, (1, 1)),)), False if point != (2, 2) else True)
        self.assertIs(is_flow(MUSTS, (((0, 2), (2, 2), (1, 1)), GIFT)), True)

    def test_free_points_alone(self):
        # (2, 2) is forced, (0, 2) barred.
        musts = Musts(FLAT, ("bad", ((1, ""), (0, "00"))))
        self.assertIs(is_flow(musts, (GIFT,)), False)
        self.assertIs(is_flow(musts, (((0, 2), (2, 2), (1, 1)),)), False)
        self.assertEqual([point for point, _ in own_table(musts, (), (0, 1), ())], [(2, 0), (2, 4), (4, 2)])
        # Points are free also if no lot passes.
        self.assertEqual(own_table(Musts(FLAT, REFUSING), W, (1, 1), ()), ())
        musts = Musts((PAIR, 2, (), ()), REFUSING)
        self.assertEqual([point for point, _ in own_table(musts, W, (1, 1), ())], [(6, 2), (6, 0), (6, 4), (8, 2)])
        self.assertIs(is_flow(musts, (((6, 0), (6, 2), (1, 1)),)), True)
        self.assertIs(is_flow(musts, (((4, 2), (6, 2), (1, 1)),)), False)

    def test_musts_both_ways(self):
        # A bad half and its block: the points are musts of one another.
        musts = Musts(FLAT, ("bad", ((1, "0"),)))
        self.assertEqual((musts.of((2, 2)), musts.of((2, 0))), (((2, 0),), ((2, 2),)))
        self.assertIs(is_flow(musts, (((2, 0), (2, 2), (1, 1)), ((2, 2), (2, 0), (3, 1)))), True)
        table = own_table(musts, (), (1, 1), (((2, 0), (2, 2), (1, 1)), ((2, 2), (2, 0), (3, 1))))
        self.assertEqual(table[0], ((2, 2), (-4, 1)))
        self.assertEqual(table[2], ((2, 0), (1, 1)))

    def test_drawn_flows(self):
        some = 0
        for rolls, world, musts, known, lots, worths in markets(921, 60, 60, False):
            free = free_oracle(known)
            for price in (Fraction(0), Fraction(rolls.randrange(9), rolls.randrange(1, 4))):
                flow = draw_flow(rolls, known)
                self.assertIs(is_flow(musts, flow), True)
                table = own_table(musts, worths, pair_of(price), flow)
                self.assertEqual(table, tuple((p, pair_of(own)) for p, own in owns_oracle(known, worths, price, flow)))
                plain = own_table(musts, worths, pair_of(price), ())
                self.assertEqual(sum(Fraction(*own) for _, own in table), sum(Fraction(*own) for _, own in plain))
                some += len(flow) > 1
            for p in known.points:
                for must in known.points:
                    right = p in free and must in free and must in known.musts[p]
                    self.assertIs(is_flow(musts, ((p, must, (1, 3)),)), right)
        self.assertGreater(some, 20)

    def test_parameters(self):
        flows = tuple(thing for thing in NO_FLOWS)
        good = [("musts", MUSTS), ("worths", W), ("price", (1, 2)), ("flow", (GIFT,))]
        check_parameters(self, own_table, good, {"worths": WRONG_WORTHS + DEEP_WORTHS, "price": WRONG_PRICES, "flow": flows})
        self.assertIs(is_flow(thing=(GIFT,), musts=MUSTS), True)


if __name__ == "__main__":
    unittest.main()
