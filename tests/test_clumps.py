"""Clumps and the steps between lots that pass, [60]."""

import unittest

from musttools import BAR, FLAT, REFUSING, TEST, draw_known
from tools import check_parameters
from wholefaces.clumps import clumps_of, steps_between
from wholefaces.extremes import greatest_of, is_passing, least_of
from wholefaces.mustclasses import Musts
from worlds import OPEN_LOTS, WRONG_LOTS, worlds


def oracle_clumps(known):
    """The clumps, by what is reached from each point."""
    reach = {point: known.reached([point]) for point in known.points}
    clumps = []
    for point in known.points:
        clump = tuple(other for other in known.points if other in reach[point] and point in reach[other])
        if clump not in clumps:
            clumps.append(clump)
    return clumps


def oracle_steps(known, lot, other):
    """The steps, by the words of [60]."""
    clumps = oracle_clumps(known)
    steps, now = [lot], set(lot)
    while True:
        going = [clump for clump in clumps if set(clump) <= now and not set(clump) & set(other)]
        if not going:
            break
        free = [clump for clump in going if not any(set(known.musts[point]) & set(clump) for mate in going if mate != clump for point in mate)]
        now -= set(free[0])
        steps.append(known.order(now))
    while True:
        coming = [clump for clump in clumps if set(clump) <= set(other) and not set(clump) <= now]
        if not coming:
            return tuple(steps)
        ready = [clump for clump in coming if all(must in now or must in clump for point in clump for must in known.musts[point])]
        now |= set(ready[0])
        steps.append(known.order(now))


def passing_lots(rolls, known):
    """Some lots that pass."""
    if known.refuses():
        return []
    lots = [known.least(), known.free_or_forced()]
    for _ in range(4):
        more = known.reached(known.sources + tuple(rolls.sample(known.points, min(len(known.points), rolls.randrange(1, 4)))))
        if BAR not in more:
            lots.append(known.order(more))
    return lots


class ClumpsTest(unittest.TestCase):

    def test_small_cases(self):
        self.assertEqual(clumps_of(Musts(FLAT, ("bad", ()))), (((2, 2),), ((0, 2),), ((2, 0),), ((2, 4),), ((4, 2),)))
        self.assertEqual(clumps_of(Musts(FLAT, TEST)), (((2, 2), (2, 0)), ((0, 2),), ((2, 4),), ((4, 2),)))
        self.assertEqual(clumps_of(musts=Musts(FLAT, REFUSING)), (((2, 2), (2, 0)), ((0, 2),), ((2, 4),), ((4, 2),)))
        musts = Musts(FLAT, ("bad", ((1, "0"),)))
        lots = ((2, 2), (0, 2), (2, 0)), ((2, 2), (2, 0), (4, 2))
        self.assertEqual(steps_between(musts, lots[0], lots[1]), (lots[0], ((2, 2), (2, 0)), lots[1]))
        self.assertEqual(steps_between(musts, lots[0], ()), (lots[0], ((2, 2), (2, 0)), ()))
        self.assertEqual(steps_between(musts, (), ((2, 2), (2, 0))), ((), ((2, 2), (2, 0))))
        self.assertEqual(steps_between(musts, (), ()), ((),))

    def test_drawn_musts(self):
        rolls, made = worlds(601, 70)
        many = 0
        for world in made:
            frame, test, known = draw_known(rolls, world, 160)
            musts = Musts(frame, test)
            self.assertEqual(clumps_of(musts), tuple(oracle_clumps(known)))
            lots = passing_lots(rolls, known)
            for _ in range(3 if lots else 0):
                lot, other = rolls.choice(lots), rolls.choice(lots)
                steps = steps_between(musts, lot, other)
                self.assertEqual(steps, oracle_steps(known, lot, other))
                self.assertEqual(steps_between(musts, lot, lot), (lot,))
                many += len(steps) > 3
                for step in steps[:6]:
                    self.assertIs(is_passing(musts, step), True)
        self.assertGreater(many, 15)

    def test_all_or_nothing_of_a_clump(self):
        rolls, made = worlds(602, 30)
        for world in made:
            frame, test, known = draw_known(rolls, world, 120)
            musts = Musts(frame, test)
            for lot in passing_lots(rolls, known):
                for clump in clumps_of(musts):
                    self.assertIn(len(set(clump) & set(lot)), (0, len(clump)))
            if not known.refuses():
                self.assertEqual(steps_between(musts, least_of(musts), greatest_of(musts))[-1], greatest_of(musts))

    def test_parameters(self):
        musts = Musts(FLAT, TEST)
        wrong = WRONG_LOTS + OPEN_LOTS + ((), ((2, 2),), ((2, 2), (0, 2)), ((2, 2), (0, 2), (2, 0), (1, 1)))
        good = [("musts", musts), ("lot", ((2, 2), (2, 0))), ("other", ((2, 2), (0, 2), (2, 0)))]
        check_parameters(self, steps_between, good, {"lot": wrong, "other": wrong})


if __name__ == "__main__":
    unittest.main()
