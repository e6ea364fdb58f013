"""Which tests force a thing together, [67]."""

import unittest
from itertools import combinations

from musttools import (BAR, FLAT, FRAME, HIGH_POINTS, TEST, WRONG_TESTS, Known, draw_frame, draw_names, draw_test, good_oracle, names_within)
from tools import SQUARE, check_parameters
from wholefaces.blame import blame_of
from worlds import OFF_POINTS, worlds


def oracle_blame(forced, many, thing):
    """All least tuples of places that force a thing; forced tells what each tuple forces."""
    found = [places for size in range(many + 1) for places in combinations(range(many), size) if thing in forced[places]]
    return tuple(places for places in found if not any(set(other) < set(places) for other in found))


class BlameTest(unittest.TestCase):

    def test_example(self):
        tests = (("bad", ((0, ""),)), ("bad", ((1, ""),)), ("bad", ((0, "0"),)))
        self.assertEqual(blame_of(FRAME, tests, (0, 2)), ((0, 2), (1, 2)))
        self.assertEqual(blame_of(FRAME, tests, (2, 2)), ((0,), (1,)))
        self.assertEqual(blame_of(FRAME, tests, (4, 2)), ())
        self.assertEqual(blame_of(FRAME, tests, BAR), ())
        self.assertEqual(blame_of(FRAME, (), (2, 2)), ())
        self.assertEqual(blame_of((SQUARE, 0, (), ()), tests, BAR), ((0,), (1,)))
        self.assertEqual(blame_of(FLAT, tests + (("bad", ((0, "00"),)),), BAR), ((0, 2, 3), (1, 2, 3)))

    def check(self, rolls, world, frame, tests, bads):
        forced = {places: Known(world, frame[1], {name for k in places for name in bads[k]}).forced()
                  for size in range(len(tests) + 1) for places in combinations(range(len(tests)), size)}
        known = Known(world, frame[1], ())
        things = rolls.sample(known.points, min(5, len(known.points))) + [BAR]
        things += [thing for thing in sorted(forced[tuple(range(len(tests)))], key=str)][:6]
        for thing in things:
            self.assertEqual(blame_of(frame, tests, thing), oracle_blame(forced, len(tests), thing))

    def test_drawn_names(self):
        rolls, made = worlds(651, 24, 2, 1)
        for world in made:
            frame = draw_frame(rolls, world, 60, named=False)
            tests = tuple(("bad", draw_names(rolls, world, frame[1])[:rolls.randrange(1, 5)]) for _ in range(rolls.randrange(6)))
            self.check(rolls, world, frame, tests, [test[1] for test in tests])

    def test_six_tests(self):
        rolls, made = worlds(652, 4, 1, 1, 2)
        for world in made:
            frame = world.solid, world.top, (), ()
            tests = tuple(("bad", tuple(rolls.sample(world.names, min(3, len(world.names))))) for _ in range(6))
            self.check(rolls, world, frame, tests, [test[1] for test in tests])

    def test_drawn_tests(self):
        rolls, made = worlds(653, 14, 2, 1, 2)
        for world in made:
            frame = draw_frame(rolls, world, 40)
            tests = tuple(draw_test(rolls, world, frame, 1) for _ in range(3))
            bads = [[name for name in names_within(world, frame[1]) if not good_oracle(world, frame, test, name)] for test in tests]
            self.check(rolls, world, frame, tests, bads)

    def test_parameters(self):
        tests = (None, True, "", TEST, [TEST], (TEST, None)) + tuple((TEST, wrong) for wrong in WRONG_TESTS)
        things = OFF_POINTS + HIGH_POINTS + ("bar ", "BAR", ("bar",), [BAR])
        good = [("frame", FLAT), ("tests", (TEST, ("bad", ()))), ("thing", (2, 0))]
        check_parameters(self, blame_of, good, {"tests": tests, "thing": things})


if __name__ == "__main__":
    unittest.main()
