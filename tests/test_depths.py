"""The least deep at which some lot passes, [59]; (G5) of [11]."""

import unittest

from musttools import WRONG_TESTS, Known, draw_frame, draw_test, good_oracle
from test_regions import WRONG_REGIONS
from tools import SQUARE, check_parameters
from wholefaces.depths import least_deep
from wholefaces.extremes import is_passing, least_of
from wholefaces.mustclasses import Musts
from worlds import worlds

X = ("axis", 0)
SIZE = ("sum", ((1, ("size",)),))
ERROR = ("compare", "<", ("sum", ((1, ("error", "f")),)), ("sum", ((1, ("one",)),)))


def number(n):
    """The sum that is a number."""
    return "sum", ((n, ("one",)),)


class DepthsTest(unittest.TestCase):

    def test_small_cases(self):
        self.assertEqual(least_deep(SQUARE, (), (), ("bad", ())), 0)
        self.assertEqual(least_deep(SQUARE, (), (), ("not", ("bad", ()))), None)
        self.assertEqual([least_deep(SQUARE, (), (), ("compare", "<=", SIZE, number(n))) for n in (5, 4, 3, 2, 1, 0)],
                         [0, 0, 2, 2, 4, None])
        self.assertEqual(least_deep(SQUARE, (), (), ("compare", ">=", ("sum", ((1, ("generation",)),)), number(3))), 3)
        flat = ((2, 0), (((0, 0), (0, 1), (1, 1)),))
        self.assertEqual(least_deep(flat, (), (), ("bad", ())), 0)
        self.assertIsNone(least_deep(flat, (), (), ("bad", ((0, ""),))))
        # Bad blocks next to a good one drag it along.
        self.assertEqual(least_deep(SQUARE, (), (), ("bad", ((0, ""), (0, "0"), (0, "00")))), 3)

    def test_drawn_tests(self):
        rolls, made = worlds(591, 50, 2, 1, 3)
        told = []
        for world in made:
            if len(world.names) > 512:
                continue
            solid, _, regions, fields = frame = draw_frame(rolls, world)
            test = draw_test(rolls, world, (solid, world.top, regions, fields), 2, errors=False)
            bad = [name for name in world.names if not good_oracle(world, frame, test, name)]
            passing = [deep for deep in range(world.top + 1) if not Known(world, deep, bad).refuses()]
            expected = passing[0] if passing else None
            self.assertEqual(least_deep(solid, regions, fields, test), expected)
            told.append(expected)
            for deep in passing[:2]:
                self.assertIs(is_passing(Musts((solid, deep, regions, fields), test), Known(world, deep, bad).least()), True)
            # What is least at the least deep is least for all greater ones.
            if expected is not None:
                self.assertEqual(passing, list(range(expected, world.top + 1)))
                lots = {least_of(Musts((solid, deep, regions, fields), test)) for deep in passing}
                self.assertEqual(len(lots), 1)
        self.assertGreater(len(set(told)), 3)

    def test_names_beyond_all_deeps(self):
        rolls, made = worlds(592, 20, 2, 1, 2)
        for world in made:
            names = tuple(rolls.sample(world.names, min(len(world.names), 6)))
            passing = [deep for deep in range(world.top + 1) if not Known(world, deep, names).refuses()]
            told = least_deep(world.solid, (), (), ("bad", names + ((77, "01"),)))
            self.assertEqual(told, passing[0] if passing else None)

    def test_parameters(self):
        regions, fields = (("a", ("box", (0, 0), (4, 4))),), (("f", X),)
        test = ("or", ("in", "a"), ("compare", "<", ("sum", ((1, ("least", "f")),)), SIZE))
        wrong_fields = (None, True, X, [("f", X)], (("f", X), ("f", X)), (("a", X),), (("f", X), ("a", X)), (("f", ("field", "f")),),
                        (("f", ("axis", 2)),), (("x", X),), (("f",),))
        tests = tuple(wrong for wrong in WRONG_TESTS if wrong != ("in", "a")) + (
            ERROR, ("not", ERROR), ("and", ("bad", ()), ERROR), ("or", ERROR, ("bad", ())), ("in", "b"))
        good = [("solid", SQUARE), ("regions", regions), ("fields", fields), ("test", test)]
        check_parameters(self, least_deep, good, {"regions": WRONG_REGIONS, "fields": wrong_fields, "test": tests})


if __name__ == "__main__":
    unittest.main()
