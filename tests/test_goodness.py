"""Which blocks are good, and tests put together, [54] and [9]."""

import unittest

from musttools import WRONG_TESTS, draw_frame, draw_test, good_oracle, names_within
from test_quantities import OFF_BLOCKS
from tools import LOW, ODDS, R0, R1, SQUARE, check_parameters, deep
from wholefaces.goodness import all_of, has_error, is_good
from worlds import worlds

X = ("axis", 0)
FRAME = (SQUARE, 2, (("a", ("box", (0, 0), (4, 2))), ("half", ("upto", ((0, 1), (1, -1)), 0))), (("f", ("product", (X, X))),))


def number(n):
    """The sum that is a number."""
    return "sum", ((n, ("one",)),)


class GoodnessTest(unittest.TestCase):

    def test_each_word(self):
        size = ("sum", ((1, ("size",)),))
        for mark, told in (("<", (False, False, True)), ("<=", (False, True, True)), ("=", (False, True, False)),
                           (">=", (True, True, False)), (">", (True, False, False))):
            self.assertEqual(tuple(is_good(FRAME, ("compare", mark, size, number(n)), R1) for n in (3, 4, 5)), told)
        self.assertIs(is_good(FRAME, ("cut", "a"), R1), True)
        self.assertIs(is_good(FRAME, ("in", "a"), R1), False)
        self.assertIs(is_good(FRAME, ("in", "a"), LOW), True)
        self.assertIs(is_good(FRAME, ("out", "half"), R1), True)
        self.assertIs(is_good(FRAME, ("in", "half"), R0), True)
        self.assertIs(is_good(FRAME, ("has", (3, 2)), R1), True)
        self.assertIs(is_good(FRAME, ("has", (2, 3)), R1), False)
        self.assertIs(is_good(FRAME, ("has", (4, 4)), R1), True)
        self.assertIs(is_good(FRAME, ("corner", (4, 4)), R1), True)
        self.assertIs(is_good(FRAME, ("corner", (2, 2)), R1), False)
        self.assertIs(is_good(FRAME, ("bad", ()), R1), True)
        self.assertIs(is_good(FRAME, ("bad", ((1, ""),)), R1), False)
        self.assertIs(is_good(FRAME, ("bad", ((1, ""),)), LOW), True)
        self.assertIs(is_good(FRAME, ("bad", ((0, ""), (7, ""), (0, "0101010101"))), R0), False)
        self.assertIs(is_good(FRAME, ("bad", ((7, ""), (0, "0101010101"))), R0), True)
        error = ("compare", "<=", ("sum", ((1, ("error", "f")),)), number(3))
        self.assertIs(is_good(FRAME, error, R1), False)
        self.assertIs(is_good(FRAME, ("not", error), R1), True)
        self.assertIs(is_good((SQUARE, 0) + FRAME[2:], error, R1), True)

    def test_joins(self):
        tests = {True: ("bad", ()), False: ("bad", ((1, ""),))}
        for one in (True, False):
            self.assertIs(is_good(FRAME, ("not", tests[one]), R1), not one)
            for other in (True, False):
                self.assertIs(is_good(FRAME, ("and", tests[one], tests[other]), R1), one and other)
                self.assertIs(is_good(FRAME, ("or", tests[one], tests[other]), R1), one or other)

    def test_drawn_tests(self):
        rolls, made = worlds(541, 70)
        for world in made:
            frame = draw_frame(rolls, world, 60)
            test = draw_test(rolls, world, frame, 3)
            names = names_within(world, frame[1])
            for name in rolls.sample(names, min(9, len(names))):
                self.assertIs(is_good(frame, test, world.blocks[name]), good_oracle(world, frame, test, name), test)

    def test_all_of(self):
        self.assertEqual(all_of(()), ("bad", ()))
        self.assertEqual(all_of((5,)), 5)
        self.assertEqual(all_of((5, "a", None)), ("and", ("and", 5, "a"), None))
        row = [1]
        self.assertIs(all_of((row,)), row)
        self.assertIs(all_of((None, row))[2], row)
        self.assertEqual(all_of(tests=(1, 2, 3, 4)), ("and", ("and", ("and", 1, 2), 3), 4))
        joined = all_of((True,) * 5000)
        for _ in range(4999):
            self.assertEqual((joined[0], joined[2]), ("and", True))
            joined = joined[1]
        self.assertIs(joined, True)
        wrong = [odd for odd in ODDS if not isinstance(odd, tuple)]
        check_parameters(self, all_of, [("tests", (("bad", ()), 7))], {"tests": wrong + [{}, ""]})

    def test_has_error(self):
        error = ("compare", "<", number(1), ("sum", ((0, ("size",)), (0, ("error", "f")))))
        for test, told in ((error, True), (("compare", "<", error[3], number(2)), True), (("compare", "<", number(1), number(2)), False),
                           (("not", error), True), (("and", ("bad", ()), error), True), (("or", error, ("in", "a")), True),
                           (("in", "error"), False), (("has", (1, 1)), False), (("bad", ((0, ""),)), False), (("not", ("cut", "a")), False),
                           (("compare", "<", ("sum", ((1, ("least", "f")),)), ("sum", ((1, ("most", "f")),))), False)):
            self.assertIs(has_error(test), told)
        self.assertIs(has_error(test=("or", ("not", ("and", error, error)), ("bad", ()))), True)

    def test_parameters(self):
        good = [("frame", FRAME), ("test", ("or", ("cut", "half"), ("bad", ()))), ("block", LOW)]
        wrong = tuple(test for test in WRONG_TESTS if test != ("in", "a")) + (("in", "f"), ("out", "b"), deep(("bad", ()), 9))
        check_parameters(self, is_good, good, {"test": wrong, "block": OFF_BLOCKS})


if __name__ == "__main__":
    unittest.main()
