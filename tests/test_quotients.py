"""Quotients, [14]."""

import random
import unittest
from fractions import Fraction
from math import gcd

from tools import WRONG_INTEGERS, WRONG_QUOTIENTS, check_parameters, pair_of
from wholefaces.quotients import added, less, minus, over, plus, quotient_of, rising, scaled, times

BIG = 10 ** 40 - 1


class QuotientsTest(unittest.TestCase):

    def test_examples(self):
        self.assertEqual((quotient_of(6, -4), quotient_of(0, -3)), ((-3, 2), (0, 1)))
        self.assertEqual(minus((1, 2), (2, 3)), (-1, 6))
        self.assertEqual(over((1, 2), (-2, 3)), (-3, 4))
        self.assertIs(less((-1, 2), (-1, 3)), True)

    def test_quotient_of(self):
        for top in list(range(-6, 7)) + [BIG, -BIG]:
            for bottom in (-9, -6, -1, 1, 2, 4, 12, BIG):
                self.assertEqual(quotient_of(top, bottom), pair_of(Fraction(top, bottom)))

    def test_reckoning(self):
        rows = [Fraction(a, b) for a in (-7, -2, -1, 0, 1, 3, 6) for b in (1, 2, 3, 4, 35)] + [Fraction(BIG, 7)]
        for a in rows:
            for b in rows:
                one, other = pair_of(a), pair_of(b)
                self.assertEqual(plus(one, other), pair_of(a + b))
                self.assertEqual(minus(one, other), pair_of(a - b))
                self.assertEqual(times(one, other), pair_of(a * b))
                self.assertIs(less(one, other), a < b)
                if b != 0:
                    self.assertEqual(over(one, other), pair_of(a / b))

    def test_rows(self):
        rolls = random.Random(14)
        for many in range(6):
            row = [Fraction(rolls.randrange(-9, 10), rolls.randrange(1, 9)) for _ in range(many)]
            pairs = [pair_of(number) for number in row]
            self.assertEqual(added(pairs), pair_of(sum(row, Fraction(0))))
            self.assertEqual(rising(pairs + pairs[:2]), [pair_of(number) for number in sorted(set(row))])
            tops, bottom = scaled(pairs)
            self.assertEqual([Fraction(top, bottom) for top in tops], row)
            self.assertEqual(gcd(bottom, *tops), 1)

    def test_parameters(self):
        good = [("top", 6), ("bottom", -4)]
        check_parameters(self, quotient_of, good, {"top": WRONG_INTEGERS, "bottom": WRONG_INTEGERS + (0,)})
        good = [("one", (1, 2)), ("other", (-2, 3))]
        for function in (plus, minus, times, over, less):
            wrong = {"one": WRONG_QUOTIENTS, "other": WRONG_QUOTIENTS}
            if function == over:
                wrong["other"] = wrong["other"] + ((0, 1),)
            check_parameters(self, function, good, wrong)


if __name__ == "__main__":
    unittest.main()
