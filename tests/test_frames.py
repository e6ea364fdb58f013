"""Frames, [41] and [9]."""

import unittest

from tools import CUBE, ODDS, PAIR, PLANE, R0, R1, SQUARE, check_parameters, deep
from wholefaces.errors import CutRoot, EmptySolid
from wholefaces.frames import frame_of, is_frame
from wholefaces.plantexts import read_plan
from wholefaces.solids import solid_from

ALL = ("all",)
X = ("axis", 0)
REGIONS = (("a", ("box", (0, 0), (4, 2))), ("b", ("not", ("name", "a"))))
FIELDS = (("f", ("product", (X, X))), ("g", ("sum", ((1, ("field", "f")), (-1, X)))))
PLAN = (2, 2, 2, 3, REGIONS, ALL, FIELDS, (("w", ("sum", ((1, ("one",)),))),), (("c", ("in", "a")),))


class FramesTest(unittest.TestCase):

    def test_is_frame(self):
        for thing in ((SQUARE, 0, (), ()), (SQUARE, 4, REGIONS, FIELDS), (CUBE, 3, (), (("f", ("axis", 2)),)),
                      (PAIR, 2, (("f", ALL),), ()), (PAIR, 1, (), (("a", X),)), (((2, 0), (((0, 0), (0, 1), (1, 1)),)), 0, (), ())):
            self.assertIs(is_frame(thing), True, thing)
        self.assertIs(is_frame(thing=(SQUARE, 2, (), ())), True)

    def test_what_is_no_frame(self):
        good = (SQUARE, 4, REGIONS, FIELDS)
        wrong = [[SQUARE, 4, (), ()], good + ((),), good[:3], (SQUARE, 5, (), ()), (SQUARE, -1, (), ()), (SQUARE, True, (), ()),
                 (SQUARE, None, (), ()), (SQUARE, 10 ** 59, (), ()), (SQUARE, "2", (), ()), (CUBE, 4, (), ()),
                 ((PLANE, ()), 2, (), ()), ((PLANE, (R1, R0)), 2, (), ()), (PLANE, 2, (), ()), (None, 2, (), ()),
                 (SQUARE, 2, [], ()), (SQUARE, 2, (), []), (SQUARE, 2, ALL, ()), (SQUARE, 2, (("a", ALL), ("a", ALL)), ()),
                 (SQUARE, 2, (), (("a", X), ("a", X))), (SQUARE, 2, (("a", ALL),), (("a", X),)),
                 (SQUARE, 2, REGIONS, FIELDS + (("b", X),)), (SQUARE, 2, (("a", ("name", "b")), ("b", ALL)), ()),
                 (SQUARE, 2, (), (("f", ("field", "g")), ("g", X))), (SQUARE, 2, (), (("f", ("axis", 2)),)),
                 (SQUARE, 2, (("a", ("box", (0, 0, 0), (1, 1, 1))),), ()), (SQUARE, 2, (("x", ALL),), ()), (SQUARE, 2, (("A", ALL),), ()),
                 (SQUARE, 2, (), ((True, X),)), ((PLANE, (R0, (R1[0], R1[1], (4, True)))), 2, (), ()), ((2, 10 ** 59), 0, (), ()),
                 (((2, 10 ** 59), (R0,)), 0, (), ()), deep(good, 26), ((True, (R0,)), 0, (), ()), (SQUARE, 2, (), (("f",),))]
        for thing in wrong + list(ODDS):
            self.assertIs(is_frame(thing), False, thing)

    def test_frame_of(self):
        cubes = ((0, 0), (0, 1), (1, 0), (1, 1))
        self.assertEqual(frame_of(PLAN), (solid_from(PLANE, cubes, (), ALL), 3, REGIONS, FIELDS))
        one = frame_of(PLAN[:2] + (1, 0) + PLAN[4:])
        self.assertEqual(one, (SQUARE, 0, REGIONS, FIELDS))
        text = "space 3\nrounds 1\ncubes 1\ndeep 2\nregion low = upto x <= 9\nsolid all\n".replace("low", "near")
        self.assertEqual(frame_of(read_plan(text)), (CUBE, 2, (("near", ("upto", ((0, 1),), 9)),), ()))
        boxed = (2, 2, 2, 0, (("s", ("box", (0, 0), (8, 4))),), ("name", "s"), (), (), ())
        self.assertEqual(frame_of(boxed)[0], PAIR)
        self.assertIs(is_frame(frame_of(boxed)), True)

    def test_errors(self):
        with self.assertRaises(CutRoot) as caught:
            frame_of((2, 2, 1, 0, (), ("upto", ((0, 1),), 2), (), (), ()))
        self.assertEqual(caught.exception.root, R0)
        self.assertRaises(EmptySolid, frame_of, (2, 2, 1, 0, (), ("not", ALL), (), (), ()))

    def test_parameters(self):
        wrong = ODDS + (PLAN[:8], PLAN + ((),), list(PLAN), (2, 6) + PLAN[2:], (2, 2, 9) + PLAN[3:], PLAN[:3] + (5,) + PLAN[4:],
                        (SQUARE, 2, (), ()), (True,) + PLAN[1:], PLAN[:5] + (("name", "z1"),) + PLAN[6:])
        check_parameters(self, frame_of, [("plan", PLAN)], {"plan": wrong})


if __name__ == "__main__":
    unittest.main()
