"""Kinds of values, [13]."""

import unittest

from tools import ODDS, PLANE, WRONG_INTEGERS, WRONG_NUMBERS, WRONG_PLACES, WRONG_POINTS, WRONG_QUOTIENTS, deep
from wholefaces.kinds import is_body, is_integer, is_new, is_number, is_place, is_point, is_quotient, is_space

SPACE = (3, 1)


class KindsTest(unittest.TestCase):

    def check(self, function, right, wrong):
        for thing in right:
            self.assertIs(function(thing), True, thing)
        for thing in tuple(wrong) + ODDS + (deep((1, 2), 30), deep(True, 29)):
            self.assertIs(function(thing), False, thing)

    def test_integers(self):
        self.check(is_integer, (0, 1, -1, 10 ** 59, -10 ** 59), WRONG_INTEGERS)

    def test_numbers(self):
        self.check(is_number, (0, 1, 10 ** 59), WRONG_NUMBERS + (-10 ** 59,))

    def test_quotients(self):
        self.check(is_quotient, ((0, 1), (1, 2), (-3, 7), (5, 1), (10 ** 59, 10 ** 59 - 1)), WRONG_QUOTIENTS)
        self.assertEqual([is_quotient(thing) for thing in ((0, 1), (0, 2), (1, -2))], [True, False, False])
        self.check(is_quotient, (), ((-2, 4), (0, 0), (10 ** 58, 10 ** 59)))

    def test_spaces(self):
        self.check(is_space, ((2, 0), (3, 0), (2, 8), (3, 10 ** 59)),
                   ((1, 1), (4, 1), (2, -1), (2, True), (True, 2), [2, 2], (2,), (2, 2, 2), 2, (2, "2"), ((2, 2),)))

    def test_points(self):
        self.check(lambda thing: is_point(PLANE, thing), ((0, 0), (-5, 7), (10 ** 59, 0)), WRONG_POINTS)
        self.check(lambda thing: is_point(SPACE, thing), ((0, 0, 0), (1, 2, -3)), ((0, 0), (0, 0, True), (0, 0, 0, 0)))

    def test_new_points(self):
        new = lambda thing: is_new(PLANE, thing)
        self.check(new, ((1, 0), (0, -2), (4, 6), (10 ** 9 + 1, 0)), ((0, 0), (4, -8), (8, 4)) + WRONG_POINTS[:10])
        self.check(lambda thing: is_new((2, 0), thing), (), ((0, 0), (1, 5), (-3, 2)))
        self.check(lambda thing: is_new(SPACE, thing), ((0, 0, 1),), ((0, 0, 2), (0, 1)))

    def test_places(self):
        self.check(lambda thing: is_place(PLANE, thing), ((0, 0, 1), (1, 2, 2), (-3, 6, 7), (3, 3, 1)), WRONG_PLACES)
        self.check(lambda thing: is_place(SPACE, thing), ((2, 2, 2, 1), (2, 4, 1, 2)), ((2, 4, 6, 2), (1, 1, 1)))
        self.assertIs(is_place(PLANE, (2, 4, 2)), False)

    def test_bodies(self):
        right = (((0, 0), (0, 0), (1, 3)), ((0, 0), (1, 1), (2, 2)), ((-1, 5), (4, 0), (0, 0)))
        wrong = (((0, 0), (1, 1)), ((0, 0),) * 4, [(0, 0)] * 3, ((0, 0), (1, 1), (2, True)), ((0, 0), (1, 1), (2,)),
                 ((0, 0), (1, 1), [2, 2]), (1, 2, 3), ())
        self.check(lambda thing: is_body(PLANE, thing), right, wrong)
        self.check(lambda thing: is_body(SPACE, thing), (((0, 0, 0),) * 4,), right)

    def test_by_name(self):
        self.assertIs(is_point(thing=(0, 0), space=PLANE), True)
        self.assertIs(is_new(thing=(0, 0), space=PLANE), False)
        self.assertIs(is_place(thing=(0, 0, 1), space=PLANE), True)
        self.assertIs(is_body(thing=((0, 0),) * 3, space=PLANE), True)
        self.assertEqual([f(thing=1) for f in (is_integer, is_number, is_quotient, is_space)], [True, True, False, False])


if __name__ == "__main__":
    unittest.main()
