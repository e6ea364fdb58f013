"""Values of expressions and fields, [38]."""

import random
import unittest

from tools import CUBE, SQUARE, WRONG_POINTS, check_parameters
from trees import random_expression
from wholefaces.fieldvalues import field_at, value_of

X, Y, Z = ("axis", 0), ("axis", 1), ("axis", 2)
F = (("f", ("product", (X, X))), ("g", ("sum", ((1, ("field", "f")), (-1, Y)))))
FRAME = (SQUARE, 2, (), F)
WRONG_EXPRESSION = (None, True, 1, "f", (), ["axis", 0], ("field", "h"), ("axis", 3), ("sum", ((1, X),)), ("abs",),
                    ("min", X, ("field", "h")), ("number", True), ("product", (X,)))


def oracle_value(fields, tree, point):
    """The value of an expression."""
    word = tree[0]
    if word in ("number", "axis"):
        return tree[1] if word == "number" else point[tree[1]]
    if word == "field":
        return oracle_value(fields, dict(fields)[tree[1]], point)
    if word == "sum":
        return sum(sign * oracle_value(fields, term, point) for sign, term in tree[1])
    parts = [oracle_value(fields, part, point) for part in (tree[1] if word == "product" else tree[1:])]
    if word == "product":
        total = 1
        for part in parts:
            total *= part
        return total
    return abs(parts[0]) if word == "abs" else min(parts) if word == "min" else max(parts)


class FieldValuesTest(unittest.TestCase):

    def test_values(self):
        self.assertEqual(field_at(FRAME, "f", (3, 1)), 9)
        self.assertEqual(field_at(FRAME, "g", (-3, 10)), -1)
        self.assertEqual(value_of(F, ("sum", ((-1, ("field", "g")),)), (4, 1)), -15)
        self.assertEqual(value_of((), ("min", ("abs", X), ("max", Y, ("number", 7))), (-20, 9)), 9)
        self.assertEqual(value_of((), ("product", (X, Y, ("sum", ((-1, X),)))), (10 ** 6, -3)), 3 * 10 ** 12)
        self.assertEqual(value_of((), Z, (1, 2, 3)), 3)
        self.assertEqual(value_of((), X, (1, 2, 3)), 1)
        self.assertEqual(value_of((), ("product", (("number", 10 ** 9),) * 4), (0, 0)), 10 ** 36)

    def test_random_values(self):
        rolls = random.Random(71)
        for k in range(400):
            dims = 2 + k % 2
            fields = ()
            for name in ("f", "g", "h")[:rolls.randrange(4)]:
                fields += ((name, random_expression(rolls, dims, [told for told, _ in fields], 2)),)
            tree = random_expression(rolls, dims, [told for told, _ in fields], 3)
            point = tuple(rolls.randrange(-9, 10) for _ in range(dims))
            self.assertEqual(value_of(fields, tree, point), oracle_value(fields, tree, point))
            frame = ((SQUARE if dims == 2 else CUBE), 1, (), fields)
            for name, expression in fields:
                self.assertEqual(field_at(frame, name, point), oracle_value(fields, expression, point))

    def test_many_names(self):
        fields = (("f", ("number", 1)),)
        for name, ahead in zip("ghijk", "fghij"):
            fields += ((name, ("sum", tuple((1, ("field", ahead)) for _ in range(12)))),)
        self.assertEqual(value_of(fields, ("field", "k"), (0, 0)), 12 ** 5)

    def test_third_axis(self):
        deep = (("abs", Z), ("min", X, Z), ("max", Z, X), ("product", (X, Z)), ("sum", ((1, X), (-1, Z))),
                ("abs", ("min", X, ("product", (X, ("sum", ((-1, Z),)))))))
        for tree in deep + (Z,):
            check_parameters(self, value_of, [("fields", F), ("expression", tree), ("point", (1, 2, 3))], {"point": ((1, 2),)})
            fields = F + (("h", tree),)
            good = [("fields", fields), ("expression", X), ("point", (1, 2, 3))]
            check_parameters(self, value_of, good, {"point": ((1, 2),)})
        for tree in (X, ("number", 2), ("sum", ((1, ("number", 2)), (1, Y))), ("product", (("number", 2), X))):
            self.assertEqual(value_of((), tree, (1, 2)), value_of((), tree, (1, 2, 3)))

    def test_parameters(self):
        points = (None, True, 1, [1, 1], (), (1,), (1, 1, 1, 1), (1, True), (1, None), ((1, 1),), "ab")
        good = [("fields", F), ("expression", ("field", "g")), ("point", (1, 2))]
        check_parameters(self, value_of, good, {"expression": WRONG_EXPRESSION, "point": points})
        names = (None, True, 0, "h", "F", "", ["f"], ("f",), "x")
        good = [("frame", FRAME), ("field", "f"), ("point", (1, 2))]
        check_parameters(self, field_at, good, {"field": names, "point": WRONG_POINTS})
        good = [("frame", (CUBE, 2, (("a", ("all",)),), F)), ("field", "f"), ("point", (1, 2, 5))]
        check_parameters(self, field_at, good, {"field": ("a",), "point": ((1, 2), (1, 2, True))})


if __name__ == "__main__":
    unittest.main()
