"""How much is above c, [87]; [90]."""

import random
import unittest
from fractions import Fraction
from itertools import permutations

from meshtools import F, FIELD_WRONGS, MESH, WRONG_C, X, as_fraction, draw_fields, draw_mesh, measure, value
from test_skins import draw_c
from tools import CUBE, WRONG_QUOTIENTS, check_parameters, pair_of
from wholefaces.meshclasses import Mesh
from wholefaces.shares import share_above, volume_above
from worlds import worlds

WRONG_ROWS = (None, True, 0, "", [], (), ((0, 1), (1, 1)), ((0, 1),) * 5, [(0, 1), (1, 1), (0, 1)], ((0, 1), (1, 1), 0), ((0, 1), (1, 1), (0, 2)),
              ((0, 1), (1, 1), (True, 1)), ((0, 1), (1, 1), [0, 1]), ((0, 1), (1, 1), None), (0, 1, 0), ((0, 1), (1, 1), (1, 0)))


def share_oracle(values, c):
    """The share of values, fractions, by the cut corners: with one, two or three values above c."""
    values = sorted(values, reverse=True)
    if values[-1] >= c:
        return Fraction(1)
    if values[0] <= c:
        return Fraction(0)
    high = [v for v in values if v > c]
    low = [v for v in values if v <= c]
    if len(high) == 1:
        return corner_share(high[0], low, c)
    if len(low) == 1:
        return 1 - corner_share(low[0], high, c)
    # Two against two: the wedge falls into three bodies, each told by the cuts of the edges from high to low ones.
    (a, b), (p, q) = high, low
    cut = {(h, l): Fraction(h - c, h - l) for h in high for l in low}
    ap, aq, bp, bq = cut[(a, p)], cut[(a, q)], cut[(b, p)], cut[(b, q)]
    corners = {"a": (1, 0, 0, 0), "b": (0, 1, 0, 0), "ap": (1 - ap, 0, ap, 0), "aq": (1 - aq, 0, 0, aq), "bp": (0, 1 - bp, bp, 0), "bq": (0, 1 - bq, 0, bq)}
    return sum(abs(determinant([corners[k] for k in names])) for names in (("a", "ap", "aq", "bq"), ("a", "ap", "bp", "bq"), ("a", "b", "bp", "bq")))


def corner_share(own, others, c):
    """The part that a cut takes off at one corner."""
    share = Fraction(1)
    for other in others:
        share *= Fraction(own - c, own - other)
    return share


def determinant(rows):
    """The determinant of rows."""
    if not rows:
        return 1
    return sum((-1) ** k * rows[0][k] * determinant([row[:k] + row[k + 1:] for row in rows[1:]]) for k in range(len(rows)))


class SharesTest(unittest.TestCase):

    def test_examples(self):
        self.assertEqual((share_above(((0, 1), (1, 1), (0, 1)), (1, 2)), volume_above(MESH, F, "f", 8)), ((1, 4), (112, 9)))

    def test_edges(self):
        for many in (3, 4):
            self.assertEqual(share_above(((1, 2),) * many, (1, 2)), (1, 1))
            self.assertEqual(share_above(((1, 2),) * many, (1, 3)), (1, 1))
            self.assertEqual(share_above(((1, 2),) * many, (2, 3)), (0, 1))
            self.assertEqual(share_above(((1, 2),) * (many - 1) + ((1, 3),), (1, 2)), (0, 1))
            self.assertEqual(share_above(((1, 2),) * (many - 1) + ((2, 3),), (1, 2)), (1, 1))
            self.assertEqual(share_above(((1, 1), (0, 1)) + ((0, 1),) * (many - 2), (1, 2)), (1, 2 ** (many - 1)))
            self.assertEqual(share_above(((0, 1), (1, 1)) + ((1, 1),) * (many - 2), (1, 2)), (2 ** (many - 1) - 1, 2 ** (many - 1)))
        self.assertEqual(share_above(((0, 1), (1, 1), (0, 1), (1, 1)), (1, 2)), (1, 2))
        self.assertEqual(share_above(((1, 1), (0, 1), (-1, 1)), (0, 1)), (1, 2))
        # The cuts lie at 5 / 6 of two edges and at 1 / 2 of the two others.
        self.assertEqual(share_above(((3, 1), (1, 1), (0, 1), (0, 1)), (1, 2)), (29, 36))

    def test_drawn_quotients(self):
        rolls = random.Random(87)
        kinds = set()
        for _ in range(600):
            many = rolls.choice((3, 4))
            values = [Fraction(rolls.randrange(-4, 5), rolls.randrange(1, 4)) for _ in range(many)]
            c = rolls.choice(values + [Fraction(rolls.randrange(-9, 10), 4)])
            told = share_above(tuple(map(pair_of, values)), pair_of(c))
            self.assertEqual(told, pair_of(share_oracle(values, c)))
            for order in rolls.sample(list(permutations(values)), 2):
                self.assertEqual(share_above(tuple(map(pair_of, order)), pair_of(c)), told)
            turned = share_above(tuple(pair_of(-v) for v in values), pair_of(-c))
            self.assertEqual(as_fraction(told) + as_fraction(turned), 2 if set(values) == {c} else 1)
            kinds.add((many, sum(v > c for v in values), sum(v == c for v in values)))
        self.assertGreater(len(kinds), 18)

    def test_great_quotients(self):
        big = 10 ** 40
        self.assertEqual(share_above(((big, 1), (-big, 1), (-big, 1)), (0, 1)), (1, 4))
        self.assertEqual(share_above(((1, big), (0, 1), (0, 1)), (1, 2 * big)), (1, 4))

    def test_drawn_volumes(self):
        rolls, made = worlds(871, 50)
        for world in made:
            mesh, lot, leaves = draw_mesh(rolls, world)
            fields = draw_fields(rolls, world.dims)
            for field in "fg":
                c = draw_c(rolls, mesh, fields, field)
                told = volume_above(mesh, fields, field, c)
                shares = [measure(block) * share_oracle([value(fields, field, corner) for corner in block], c) for block in leaves.values()]
                self.assertEqual(told, pair_of(sum(shares)))
                minus = fields + (("h", ("sum", ((-1, ("field", field)),))),)
                flat = sum(measure(block) for block in leaves.values() if all(value(fields, field, corner) == c for corner in block))
                whole = sum(measure(block) for block in leaves.values())
                self.assertEqual(as_fraction(told) + as_fraction(volume_above(mesh, minus, "h", -c)), whole + flat)

    def test_space(self):
        self.assertEqual(volume_above(Mesh(CUBE, ()), (("f", X),), "f", 1), (24, 1))

    def test_parameters(self):
        check_parameters(self, share_above, [("quotients", ((0, 1), (1, 1), (0, 1))), ("c", (1, 2))], {"quotients": WRONG_ROWS, "c": WRONG_QUOTIENTS})
        good = [("mesh", MESH), ("fields", F), ("field", "f"), ("c", 8)]
        check_parameters(self, volume_above, good, {**FIELD_WRONGS, "c": WRONG_C})


if __name__ == "__main__":
    unittest.main()
