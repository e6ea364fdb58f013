"""Answers about all lots that pass, [58]; (G5) of [11]."""

import unittest

from musttools import BAR, FLAT, HIGH_POINTS, REFUSING, TEST, Known, draw_known, draw_names
from tools import PAIR, SQUARE, check_parameters
from wholefaces.answers import either, greatest_with, least_with, parted_by, standing_of
from wholefaces.errors import NotUsable, Refused
from wholefaces.extremes import is_passing
from wholefaces.mustclasses import Musts
from worlds import OFF_POINT_ROWS, OFF_POINTS, worlds

POINT_ROWS = OFF_POINT_ROWS + (((2, 2), (1, 1)), (BAR,))


def few_points(seed, many):
    """Worlds with few points below a deep, with their musts and all lots that pass."""
    rolls, made = worlds(seed, many, 2, 1, 2)
    for world in made:
        frame, test, known = draw_known(rolls, world, 24)
        if len(known.points) <= 8:
            yield rolls, world, frame, Musts(frame, test), known, known.passing()


class AnswersTest(unittest.TestCase):

    def test_standing(self):
        musts = Musts(FLAT, ("bad", ((1, ""), (1, "0"), (0, "00"))))
        told = [standing_of(musts, point) for point in musts.all_points()]
        self.assertEqual(told, ["forced", "barred", "forced", "free", "free"])
        with self.assertRaises(Refused) as caught:
            standing_of(Musts(FLAT, REFUSING), (0, 2))
        self.assertEqual(caught.exception.chain, ((2, 2), (2, 0), BAR))

    def test_against_all_lots(self):
        for rolls, world, frame, musts, known, lots in few_points(581, 60):
            for point in known.points:
                if not lots:
                    self.assertRaises(Refused, standing_of, musts, point)
                    continue
                having = [point in lot for lot in lots]
                self.assertEqual(standing_of(musts, point), "forced" if all(having) else "free" if any(having) else "barred")
            for _ in range(6):
                points = tuple(rolls.choice(known.points) for _ in range(rolls.randrange(3))) if known.points else ()
                others = tuple(rolls.choice(known.points) for _ in range(rolls.randrange(3))) if known.points else ()
                with_points = [set(lot) for lot in lots if set(points) <= set(lot)]
                some = [lot for lot in with_points if not lot & set(others)]
                self.assertIs(either(musts, points, others), not some)
                least = world.order(set.intersection(*some)) if some else None
                greatest = world.order(set.union(*some)) if some else None
                self.assertEqual(least_with(musts, points, others), least)
                self.assertEqual(greatest_with(musts, points, others), greatest)
                if some:
                    self.assertIn(set(least), some)
                    self.assertIn(set(greatest), some)

    def test_parted_by(self):
        told = 0
        for rolls, world, frame, musts, known, lots in few_points(582, 90):
            other_test = ("bad", draw_names(rolls, world, frame[1])[:rolls.randrange(1, 4)])
            other = Musts(frame, other_test)
            mate = Known(world, frame[1], other_test[1])
            alone = [lot for lot in lots if not mate.passes(lot)]
            parted = parted_by(musts, other)
            if not alone:
                self.assertIsNone(parted)
                continue
            told += 1
            self.assertIn(parted, alone)
            self.assertEqual(parted, self.expected_parting(known, mate))
            self.assertEqual(parted_by(other, musts) is None, all(known.passes(lot) for lot in mate.passing()))
        self.assertGreater(told, 9)

    def expected_parting(self, known, mate):
        """The lot that parts, by the words of [58]."""
        least = known.least()
        if any(source not in least for source in mate.sources):
            return least
        for point in known.points:
            lot = known.reached(known.sources + (point,))
            if BAR not in lot and any(must not in lot for must in mate.musts[point]):
                return known.order(lot)
        return None

    def test_parted_by_great_ones(self):
        rolls, made = worlds(583, 40)
        for world in made:
            frame, test, known = draw_known(rolls, world, 200)
            musts = Musts(frame, test)
            for _ in range(2):
                other = ("bad", draw_names(rolls, world, frame[1])[:3])
                mate, parted = Known(world, frame[1], other[1]), parted_by(musts, Musts(frame, other))
                self.assertEqual(parted, None if known.refuses() else self.expected_parting(known, mate))
                if parted is not None:
                    self.assertIs(is_passing(musts, parted), True)
                    self.assertIs(is_passing(Musts(frame, other), parted), False)
            self.assertIsNone(parted_by(musts, Musts(frame, test)))
            self.assertIsNone(parted_by(musts, musts))

    def test_no_lot_passes(self):
        musts = Musts(FLAT, REFUSING)
        for points, others in (((), ()), (((0, 2),), ()), ((), ((0, 2),))):
            self.assertIs(either(musts, points, others), True)
            self.assertIsNone(least_with(musts, points, others))
            self.assertIsNone(greatest_with(musts, points, others))
        self.assertIsNone(parted_by(musts, Musts(FLAT, TEST)))
        self.assertEqual(parted_by(Musts(FLAT, TEST), musts), ((2, 2), (2, 0)))
        nought = (SQUARE, 0, (), ())
        self.assertEqual(parted_by(Musts(nought, ("bad", ())), Musts(nought, TEST)), ())
        self.assertIsNone(parted_by(Musts(nought, TEST), Musts(nought, ("bad", ()))))
        self.assertIs(either(Musts(nought, ("bad", ())), (), ()), False)
        self.assertEqual(least_with(Musts(nought, ("bad", ())), (), ()), ())

    def test_parameters(self):
        musts = Musts(FLAT, TEST)
        check_parameters(self, standing_of, [("musts", musts), ("point", (0, 2))], {"point": OFF_POINTS + HIGH_POINTS + (BAR,)})
        good = [("musts", musts), ("points", ((0, 2), (0, 2))), ("others", ((4, 2),))]
        for function in (either, least_with, greatest_with):
            check_parameters(self, function, good, {"points": POINT_ROWS, "others": POINT_ROWS})
        others = (None, True, "", (FLAT, TEST), Musts((SQUARE, 3, (), ()), TEST), Musts((PAIR, 2, (), ()), TEST), [musts])
        check_parameters(self, parted_by, [("musts", musts), ("other", Musts(FLAT, ("bad", ())))], {"other": others})
        named = (SQUARE, 2, (("a", ("all",)),), ())
        self.assertIsNone(parted_by(musts, Musts(named, ("or", ("in", "a"), ("bad", ((0, ""),))))))
        # A wrong point is told ahead of the refusal.
        self.assertRaises(NotUsable, standing_of, Musts(FLAT, REFUSING), (1, 1))


if __name__ == "__main__":
    unittest.main()
