"""Stairs and papers for them, [95] and [96]; [98]; (G9) and (G10) of [11]."""

import unittest
from fractions import Fraction

from meshtools import FLAT, as_fraction
from musttools import REFUSING
from test_bestlots import ALL, THREE
from test_flows import NO_FLOWS
from tools import ODDS, SQUARE, WRONG_NUMBERS, check_parameters, deep, pair_of
from wholefaces.bestlots import best_of
from wholefaces.counts import many_of
from wholefaces.errors import InvalidPaper
from wholefaces.extremes import least_of
from wholefaces.mustclasses import Musts
from wholefaces.stairpapers import lets_stairs, most_worth, stair_paper
from wholefaces.stairs import stairs_of
from worlds import OPEN_LOTS, WRONG_LOTS
from worthtools import DEEP_WORTHS, MUSTS, W, WRONG_WORTHS, free_oracle, markets, value_oracle, worth_oracle

WRONG_FROMS = (None, True, 0, "0", [0, 1], (0,), (0, 2), (False, 1), (0, True), (1, 1), (-1, 1), (1, 0), ())


def stairs_oracle(world, worths, lots):
    """The stairs, by following the greatest value of all lots from price 0 on."""
    many = {lot: sum(len(world.ring[p]) for p in lot) for lot in lots}
    worth = {lot: worth_oracle(worths, lot) for lot in lots}
    lot = max(lots, key=lambda one: (worth[one], -many[one]))
    steps = [(Fraction(0), lot)]
    while True:
        later = [((worth[lot] - worth[one]) / (many[lot] - many[one]), many[one], one) for one in lots if many[one] < many[lot]]
        if not later:
            break
        price, _, lot = min(later, key=lambda told: told[:2])
        steps.append((price, lot))
    ends = [pair_of(price) for price, _ in steps[1:]] + [None]
    return tuple((pair_of(price), end, lot) for (price, lot), end in zip(steps, ends))


class StairsTest(unittest.TestCase):

    def refused(self, thing, word, at, musts=MUSTS, worths=W):
        """Checks that lets_stairs refuses the thing with these fields."""
        with self.subTest(thing=thing):
            with self.assertRaises(InvalidPaper) as caught:
                lets_stairs(musts, worths, thing)
            self.assertEqual((caught.exception.word, caught.exception.at), (word, at))

    def test_examples(self):
        self.assertEqual(stairs_of(MUSTS, W), (((0, 1), (3, 4), THREE), ((3, 4), None, ())))
        self.assertEqual(most_worth(MUSTS, W, 4), (3, 2))
        paper = stair_paper(MUSTS, W)
        self.assertEqual([triple[:2] for triple in paper], [((0, 1), THREE), ((3, 4), ())])
        self.assertEqual(lets_stairs(MUSTS, W, paper), stairs_of(MUSTS, W))

    def test_one_triple(self):
        for worths in ((), (((2, 2), (0, 1)),), (((2, 2), (-3, 1)),)):
            self.assertEqual(stairs_of(MUSTS, worths), (((0, 1), None, ()),))
        empty = Musts((SQUARE, 0, (), ()), ("bad", ()))
        self.assertEqual((stairs_of(empty, ()), stair_paper(empty, ())), ((((0, 1), None, ()),), (((0, 1), (), ()),)))
        # Without free points: everything is forced.
        musts = Musts(FLAT, ("bad", ((0, ""), (1, ""), (0, "0"), (0, "1"), (1, "0"), (1, "1"))))
        self.assertEqual(stairs_of(musts, W), (((0, 1), None, ALL),))
        self.assertEqual((most_worth(musts, W, 8), most_worth(musts, W, 7), most_worth(musts, W, 99)), ((3, 1), None, (3, 1)))

    def test_against_all_lots(self):
        steps = 0
        for rolls, world, musts, known, lots, worths in markets(951, 150):
            told = stairs_of(musts, worths)
            self.assertEqual(told, stairs_oracle(world, worths, lots))
            self.assertLessEqual(len(told), len(free_oracle(known)) + 1)
            self.assertEqual(told[-1][2], least_of(musts))
            paper = stair_paper(musts, worths)
            self.assertEqual([triple[:2] for triple in paper], [(price, lot) for price, _, lot in told])
            self.assertEqual(lets_stairs(musts, worths, paper), told)
            self.check_prices(musts, worths, told)
            self.check_most(rolls, world, musts, lots, worths, told)
            steps = max(steps, len(told))
        self.assertGreater(steps, 4)

    def check_prices(self, musts, worths, told):
        """At each from but the first the lots of two triples are best, between two of them one lot alone."""
        for k, (price, end, lot) in enumerate(told):
            least, greatest, _, _ = best_of(musts, worths, price)
            self.assertEqual(least, lot)
            if k > 0:
                self.assertEqual(greatest, told[k - 1][2])
            inside = (as_fraction(price) + as_fraction(end)) / 2 if end else as_fraction(price) + 1
            self.assertEqual(best_of(musts, worths, pair_of(inside))[:2], (lot, lot))

    def check_most(self, rolls, world, musts, lots, worths, told):
        """No lot with so few blocks is worth more than most_worth; a lot of the stairs is worth just this."""
        blocks = {lot: len(world.roots) + sum(len(world.ring[p]) for p in lot) for lot in lots}
        least = min(blocks.values())
        for many in {least, max(0, least - 1), max(blocks.values()) + 3, rolls.choice(list(blocks.values())), rolls.randrange(40)}:
            found = most_worth(musts, worths, many)
            if many < least:
                self.assertIsNone(found)
                continue
            bounds = []
            for price, _, lot in told:
                price = as_fraction(price)
                bounds.append(value_oracle(world, worths, price, lot) + price * (many - len(world.roots)))
            self.assertEqual(found, pair_of(min(bounds)))
            for lot in lots:
                if blocks[lot] <= many:
                    self.assertLessEqual(worth_oracle(worths, lot), as_fraction(found))
        for _, _, lot in told:
            self.assertEqual(most_worth(musts, worths, many_of(world.solid, lot)), pair_of(worth_oracle(worths, lot)))

    def test_words(self):
        paper = stair_paper(MUSTS, W)
        one, other = paper
        for thing in ODDS + ((), [one, other], one, (one, None), (one, list(other)), (one[:2],), (one + (1,), other), deep(1, 30)):
            self.refused(thing, "shape", -1)
        for price in WRONG_FROMS:
            self.refused(((price,) + one[1:], other), "from", 0)
        for price in WRONG_FROMS[:-5] + ((0, 1), (-1, 1), (1, 0), ()):
            self.refused((one, (price,) + other[1:]), "from", 1)
        lots = tuple(lot for lot in WRONG_LOTS if lot != ()) + OPEN_LOTS + (ALL + ((1, 1),),)
        for lot in lots:
            self.refused(((one[0], lot, one[2]), other), "lot", 0)
            self.refused((one, (other[0], lot, other[2])), "lot", 1)
        self.refused((one, (other[0], ALL, other[2])), "lot", 1)
        self.refused((one, (other[0], ((2, 2), (2, 4)), other[2])), "lot", 1)
        self.refused((one, (other[0], THREE, other[2])), "lot", 1)
        for flow in NO_FLOWS:
            self.refused(((one[0], THREE, flow), other), "flow", 0)
            self.refused((one, (other[0], (), flow)), "flow", 1)
        self.refused(((one[0], (), one[2]), other), "flow", 0)
        self.refused(((one[0], ALL, one[2]), ((1, 2), THREE, other[2]), other), "flow", 1)
        # At this price the lot is best, but the one ahead is not.
        self.refused((one, ((4, 5), (), best_of(MUSTS, W, (4, 5))[3])), "flow", 1)
        # The one ahead is best, but the lot is not.
        self.refused((one, ((1, 2), (), best_of(MUSTS, W, (1, 2))[3])), "flow", 1)
        self.refused((one,), "end", -1)
        self.assertEqual(lets_stairs(MUSTS, W, (one, other)), stairs_of(MUSTS, W))

    def test_first_word(self):
        one, other = stair_paper(MUSTS, W)
        self.refused(((None, None, None), None), "shape", -1)
        self.refused(((None, None, None),), "from", 0)
        self.refused((((0, 1), None, None),), "lot", 0)
        self.refused((one, ((0, 1), None, None)), "from", 1)
        self.refused((((0, 1), THREE, None), (None, None, None)), "flow", 0)
        self.refused((one, other, other), "from", 2)
        self.refused((one, other, ((1, 1), (), ())), "lot", 2)
        musts = Musts(FLAT, REFUSING)
        self.refused((((0, 1), (), ()),), "lot", 0, musts)

    def test_other_papers(self):
        # With worths nought all lots are best at price 0, but what stands ahead of a lot has to be greater.
        self.assertEqual(lets_stairs(MUSTS, (), (((0, 1), (), ()),)), (((0, 1), None, ()),))
        self.refused((((0, 1), ALL, ()),), "end", -1, MUSTS, ())
        self.refused((((0, 1), ALL, ()), ((1, 9), (), ())), "flow", 1, MUSTS, ())

    def test_many_steps(self):
        worths = tuple((p, (k * k + 1, 1)) for k, p in enumerate(MUSTS.all_points()))
        told = stairs_of(MUSTS, worths)
        self.assertGreater(len(told), 3)
        self.assertEqual(lets_stairs(MUSTS, worths, stair_paper(MUSTS, worths)), told)
        prices = [as_fraction(price) for price, _, _ in told]
        self.assertEqual(prices, sorted(set(prices)))

    def test_parameters(self):
        wrong = {"worths": WRONG_WORTHS + DEEP_WORTHS, "many": WRONG_NUMBERS}
        check_parameters(self, stairs_of, [("musts", MUSTS), ("worths", W)], wrong)
        check_parameters(self, stair_paper, [("musts", MUSTS), ("worths", W)], wrong)
        check_parameters(self, most_worth, [("musts", MUSTS), ("worths", W), ("many", 4)], wrong)
        check_parameters(self, lets_stairs, [("musts", MUSTS), ("worths", W), ("thing", stair_paper(MUSTS, W))], wrong)


if __name__ == "__main__":
    unittest.main()
