"""Musts: sources, musts and whys, [55] and [10]."""

import unittest

from musttools import (BAR, FLAT, FRAME_PARAMETERS, HIGH_POINTS, TEST, WRONG_TESTS, Known, draw_frame, draw_known, draw_test, good_oracle,
                       names_within)
from test_quantities import OFF_BLOCKS
from tools import LOW, PAIR, R0, R1, SQUARE, check_parameters
from wholefaces.errors import NotUsable
from wholefaces.mustclasses import Musts
from wholefaces.rings import whole_ring
from worlds import OFF_POINTS, World, worlds

FRAME = (SQUARE, 2, (), (("f", ("product", (("axis", 0), ("axis", 0)))),))


def oracle_why_source(known, thing):
    """The first root that shows a source."""
    names = [name for name in sorted(known.bad) if name[1] == ""]
    return "root", [name for name in names if known.deep == 0 or known.world.middle[name] == thing][0]


def oracle_why(known, point, thing):
    """The first why that shows a must."""
    world = known.world
    if thing != BAR and thing in world.needs[point]:
        return ("need",)
    for block in whole_ring(world.space, point):
        if block in world.name_of:
            number, path = world.name_of[block]
            for half in ((number, path + "0"), (number, path + "1")):
                if half in known.bad and (BAR if len(half[1]) == known.deep else world.middle[half]) == thing:
                    return "bad", half
    return None


class MustsTest(unittest.TestCase):

    def test_example(self):
        musts = Musts(FRAME, TEST)
        self.assertEqual(musts.sources(), ((2, 2),))
        self.assertEqual((musts.of((2, 2)), musts.of((2, 0))), (((2, 0),), ((2, 2),)))
        self.assertEqual((musts.why((2, 2), (2, 0)), musts.why((2, 0), (2, 2))), (("bad", (1, "0")), ("need",)))
        self.assertEqual(musts.told(), (FRAME, TEST))
        self.assertEqual(musts.why_source((2, 2)), ("root", (1, "")))
        self.assertEqual(musts.all_points(), ((2, 2), (0, 2), (2, 0), (2, 4), (4, 2)))
        self.assertEqual((musts.bad(R1), musts.bad(LOW), musts.bad(R0)), (True, True, False))

    def check(self, musts, known):
        world = known.world
        self.assertEqual(musts.all_points(), known.points)
        self.assertEqual(musts.sources(), known.sources)
        for thing in known.sources:
            self.assertEqual(musts.why_source(thing), oracle_why_source(known, thing))
        for name in names_within(world, known.deep)[::3]:
            self.assertIs(musts.bad(world.blocks[name]), name in known.bad)
        for point in known.points:
            self.assertEqual(musts.of(point), known.musts[point])
            for thing in known.musts[point]:
                self.assertEqual(musts.why(point, thing), oracle_why(known, point, thing))

    def test_drawn_names(self):
        rolls, made = worlds(551, 60)
        for world in made:
            frame, test, known = draw_known(rolls, world)
            self.check(Musts(frame, test), known)

    def test_drawn_tests(self):
        rolls, made = worlds(552, 40, 2, 1)
        for world in made:
            frame = draw_frame(rolls, world, 80)
            test = draw_test(rolls, world, frame)
            bad = [name for name in names_within(world, frame[1]) if not good_oracle(world, frame, test, name)]
            self.check(Musts(frame, test), Known(world, frame[1], bad))

    def test_all_bad_and_all_good(self):
        for world in worlds(553, 12, 2, 1)[1]:
            for deep in range(world.top + 1):
                frame = (world.solid, deep, (), ())
                self.check(Musts(frame, ("bad", ())), Known(world, deep, ()))
                self.check(Musts(frame, ("not", ("bad", ()))), Known(world, deep, world.names))

    def test_consequences(self):
        """[62]: needs come earlier, middles of bad halves next; and these are musts of one another."""
        rolls, made = worlds(554, 40)
        for world in made:
            frame, test, known = draw_known(rolls, world)
            musts = Musts(frame, test)
            for point in musts.all_points():
                for thing in musts.of(point):
                    why = musts.why(point, thing)
                    if why == ("need",):
                        self.assertLess(world.key(thing)[0], world.key(point)[0])
                    elif thing != BAR:
                        self.assertEqual(world.key(thing)[0], world.key(point)[0] + 1)
                        self.assertIn(point, musts.of(thing))
                    else:
                        self.assertEqual(world.key(point)[0] + 1, known.deep)

    def test_deep_nought(self):
        frame = (PAIR, 0, (), ())
        musts = Musts(frame, ("bad", ((3, ""), (2, ""), (0, "0"))))
        self.assertEqual((musts.sources(), musts.all_points()), ((BAR,), ()))
        self.assertEqual(musts.why_source(BAR), ("root", (2, "")))
        self.assertEqual(Musts(frame, ("bad", ((0, "0"),))).sources(), ())

    def test_deep_at_top(self):
        world = World(SQUARE)
        known = Known(world, 4, ((1, "0110"), (1, "")))
        musts = Musts((SQUARE, 4, (), ()), ("bad", ((1, "0110"), (1, ""))))
        self.check(musts, known)
        self.assertIs(musts.bad(world.blocks[(1, "0110")]), True)
        self.assertIs(musts.bad(world.blocks[(1, "011")]), False)
        point = world.middle[(1, "011")]
        self.assertEqual(musts.of(point), world.needs[point] + (BAR,))
        self.assertEqual(musts.why(point, BAR), ("bad", (1, "0110")))

    def test_equal(self):
        musts = Musts(FRAME, TEST)
        self.assertTrue(musts == Musts(FRAME, TEST))
        self.assertFalse(musts != Musts(FRAME, TEST))
        others = [Musts(FRAME, ("bad", ((1, ""),))), Musts(FRAME, ("bad", ((1, "0"), (1, "")))), Musts((SQUARE, 3) + FRAME[2:], TEST),
                  Musts((PAIR, 2) + FRAME[2:], TEST), Musts((SQUARE, 2, (), ()), TEST), Musts((SQUARE, 2, (("a", ("all",)),), FRAME[3]), TEST)]
        for other in others + [None, True, 0, "", (FRAME, TEST), musts.told(), []]:
            self.assertIs(musts == other, False)
            self.assertIs(musts != other, True)

    def test_parameters(self):
        check_parameters(self, Musts, [("frame", FLAT), ("test", TEST)], {"frame": FRAME_PARAMETERS, "test": WRONG_TESTS})
        musts = Musts(FLAT, TEST)
        points = OFF_POINTS + HIGH_POINTS + (BAR,)
        check_parameters(self, musts.bad, [("block", LOW)], {"block": OFF_BLOCKS})
        check_parameters(self, musts.of, [("point", (2, 0))], {"point": points})
        sources = OFF_POINTS + HIGH_POINTS + (BAR, (2, 0), (0, 2), (True, 2))
        check_parameters(self, musts.why_source, [("thing", (2, 2))], {"thing": tuple(p for p in sources if p != (2, 2))})
        wrong = {"point": points, "thing": OFF_POINTS + HIGH_POINTS + (BAR, (2, 0), (0, 2))}
        check_parameters(self, musts.why, [("point", (2, 0)), ("thing", (2, 2))], wrong)
        refusing = Musts(FLAT, ("bad", ((1, "00"), (1, ""))))
        self.assertEqual(refusing.why(thing=BAR, point=(2, 0)), ("bad", (1, "00")))
        for thing in ("bar ", ["bar"], ("bar",), "BAR"):
            with self.assertRaises(NotUsable):
                refusing.why((2, 0), thing)
        small = Musts((((2, 1), (((0, 0), (0, 2), (2, 2)), ((0, 0), (2, 0), (2, 2)))), 2, (), ()), ("bad", ((0, ""), (0, "0"))))
        check_parameters(self, small.why_source, [("thing", (1, 1))], {"thing": ((True, 1), (1, True))})
        wrong = {"point": ((0, True), (False, 1)), "thing": ((True, 1), (1, True))}
        check_parameters(self, small.why, [("point", (0, 1)), ("thing", (1, 1))], wrong)
        check_parameters(self, small.of, [("point", (0, 1))], wrong)
        nought = Musts((SQUARE, 0, (), ()), TEST)
        for call in (lambda: nought.of((2, 2)), lambda: nought.why((2, 2), BAR), lambda: nought.why_source((2, 2)), lambda: nought.bad(LOW)):
            self.assertRaises(NotUsable, call)


if __name__ == "__main__":
    unittest.main()
