"""Reasons that are kept, and settled ones, [64] and [10]; (G6) of [11]."""

import unittest

from musttools import BAR, FLAT, FRAME, HIGH_POINTS, TEST, Known, draw_known, draw_names
from tools import PAIR, SQUARE, check_parameters
from wholefaces.mustclasses import Musts
from wholefaces.settling import kept_reasons, settled_reasons
from worlds import OFF_POINTS, worlds

LOOP = (((2, 2), (2, 0)), ((2, 0), (2, 2)))


def oracle_kept(known, reasons):
    """The kept reasons, each followed by itself."""
    table = dict(reasons)
    kept = []
    for point, before in reasons:
        at, fits = point, False
        for _ in range(len(reasons)):
            if at not in table:
                break
            ahead = table[at]
            if ahead is None:
                fits = at in known.sources
                break
            if at not in known.musts[ahead]:
                break
            at = ahead
        if fits:
            kept.append((point, before))
    return tuple(kept)


def oracle_settled(known, reasons):
    """The settled reasons made of the kept ones, round by round."""
    table = dict(oracle_kept(known, reasons))
    while True:
        had = known.order(table)
        more = {}
        for point in known.points:
            if point not in table:
                users = [one for one in had if point in known.musts[one]]
                if point in known.sources:
                    more[point] = None
                elif users:
                    more[point] = users[0]
        if not more:
            return tuple((point, table[point]) for point in known.points if point in table)
        table.update(more)


def draw_reasons(rolls, known):
    """Reasons: settled ones of other musts, with some changed, taken away or put in."""
    mate = Known(known.world, known.deep, draw_names(rolls, known.world, known.deep))
    table = dict(oracle_settled(known if rolls.randrange(2) else mate, ()))
    for point in rolls.sample(known.points, min(len(known.points), rolls.randrange(6))):
        kind = rolls.randrange(4)
        users = [one for one in known.points if point in known.musts[one]]
        if kind == 0:
            table.pop(point, None)
        elif kind == 1:
            table[point] = None
        elif kind == 2 and users:
            table[point] = rolls.choice(users)
        else:
            table[point] = rolls.choice(known.points)
    return tuple((point, table[point]) for point in known.order(table))


class SettlingTest(unittest.TestCase):

    def test_example(self):
        musts = Musts(FRAME, TEST)
        settled = (((2, 2), None), ((2, 0), (2, 2)))
        self.assertEqual((kept_reasons(musts, LOOP), settled_reasons(musts, LOOP)), ((), settled))
        self.assertEqual((kept_reasons(musts, ()), settled_reasons(musts, ())), ((), settled))
        self.assertEqual((kept_reasons(musts, settled), settled_reasons(musts, settled)), (settled, settled))

    def test_each_fault(self):
        musts = Musts(FRAME, ("bad", ((1, ""), (1, "0"), (0, "0"))))
        good = (((2, 2), None), ((0, 2), (2, 2)), ((2, 0), (2, 2)))
        self.assertEqual(kept_reasons(musts, good), good)
        # No source; not a must of its before; a before without a reason; a point that is its own before.
        for wrong in (((0, 2), None), ((0, 2), (2, 0)), ((0, 2), (4, 2)), ((0, 2), (0, 2))):
            self.assertEqual(kept_reasons(musts, (good[0], wrong, good[2])), (good[0], good[2]))
            self.assertEqual(settled_reasons(musts, (good[0], wrong, good[2])), good)
        self.assertEqual(kept_reasons(musts, good[1:]), ())
        self.assertEqual(kept_reasons(musts, (((2, 2), (0, 2)),) + good[1:]), ())

    def test_a_source_may_keep_another_reason(self):
        musts = Musts((PAIR, 2, (), ()), ("bad", ((1, ""), (1, "1"), (2, ""))))
        reasons = (((2, 2), None), ((6, 2), (4, 2)), ((4, 2), (2, 2)))
        self.assertEqual(musts.sources(), ((2, 2), (6, 2)))
        self.assertEqual((kept_reasons(musts, reasons), settled_reasons(musts, reasons)), (reasons, reasons))
        self.assertEqual(settled_reasons(musts, reasons[:1]), reasons[:1] + (((6, 2), None),) + reasons[2:])
        # A point that is held by a point that was there longer.
        self.assertEqual(settled_reasons(musts, (((6, 2), None),)), (((2, 2), None), ((6, 2), None), ((4, 2), (2, 2))))

    def test_drawn_reasons(self):
        rolls, made = worlds(621, 80)
        rings = strange = 0
        for world in made:
            frame, test, known = draw_known(rolls, world, 160)
            musts = Musts(frame, test)
            for _ in range(4):
                reasons = draw_reasons(rolls, known)
                kept = kept_reasons(musts, reasons)
                self.assertEqual(kept, oracle_kept(known, reasons))
                settled = settled_reasons(musts, reasons)
                self.assertEqual(settled, oracle_settled(known, reasons))
                self.assertEqual({point for point, _ in settled}, known.forced() - {BAR})
                self.assertEqual(kept_reasons(musts, settled), settled)
                self.assertEqual(settled_reasons(musts, settled), settled)
                self.assertLessEqual(set(kept), set(settled))
                rings += len(kept) < len(reasons)
                strange += 0 < len(kept) < len(settled)
        self.assertGreater(rings, 30)
        self.assertGreater(strange, 10)

    def test_rings_of_reasons(self):
        rolls, made = worlds(622, 40)
        for world in made:
            known = Known(world, world.top, world.names) if len(world.names) < 130 else None
            if known is None or len(known.points) < 3:
                continue
            musts = Musts((world.solid, world.top, (), ()), ("not", ("bad", ())))
            # All that are musts of one another hold one another, without a source.
            table = {}
            for point in known.points:
                users = [one for one in known.points if point in known.musts[one] and one not in known.sources]
                if users and point not in known.sources:
                    table[point] = users[-1]
            reasons = tuple((point, table[point]) for point in known.order(table))
            self.assertEqual(kept_reasons(musts, reasons), ())
            self.assertEqual(settled_reasons(musts, reasons), oracle_settled(known, ()))

    def test_deep_nought_and_refusing(self):
        nought = Musts((SQUARE, 0, (), ()), TEST)
        self.assertEqual((kept_reasons(nought, ()), settled_reasons(nought, ())), ((), ()))
        refusing = Musts(FLAT, ("bad", ((1, ""), (1, "0"), (1, "00"))))
        self.assertEqual(settled_reasons(refusing, ()), (((2, 2), None), ((2, 0), (2, 2))))

    def test_parameters(self):
        points = OFF_POINTS + HIGH_POINTS + (BAR,)
        wrong = (None, True, 0, "", [], [((2, 2), None)], ((2, 2), None), (((2, 2), None), ((2, 2), None)), (((2, 0), None), ((2, 2), None)),
                 (((2, 2),),), (((2, 2), None, 1),), ([(2, 2), None],), (((2, 2), None), None), (((2, 2), False),), (((2, 2), -1),), (((2, 2), ()),))
        wrong += tuple(((point, None),) for point in points) + tuple((((2, 2), point),) for point in points if point is not None)
        good = [("musts", Musts(FLAT, TEST)), ("reasons", LOOP)]
        for function in (kept_reasons, settled_reasons):
            check_parameters(self, function, good, {"reasons": wrong})


if __name__ == "__main__":
    unittest.main()
