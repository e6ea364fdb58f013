"""Expressions and texts, [33], [34]."""

import random
import re
import unittest

from grammar import spaced, wrong_at
from tools import PLANE, WRONG_NAMES, WRONG_TEXTS, check_parameters, check_wrong_text
from trees import random_expression, spoilt
from wholefaces.exprtexts import expression_line, read_expression
from wholefaces.fieldvalues import value_of

SPACE = (3, 1)
X, Y, Z, A = ("axis", 0), ("axis", 1), ("axis", 2), ("field", "a")
NAMES = ("a", "b1", "r0")
FIELDS = (("a", ("number", 3)), ("b1", ("sum", ((1, X), (-1, Y)))), ("r0", ("product", (X, Y))))
WORDS = ("x", "y", "z", "a", "b1", "d", "(", ")", ",", "+", "-", "*", "abs", "min", "max", "0", "7", "01", "12345678",
         "1234567", "r0.1", "A", "low", "=", ";")


def number(n):
    """The expression of a number."""
    return ("number", n)


WRONG_EXPRESSIONS = (
    None, True, 1, "x", ["axis", 0], (), ("axis",), ("axis", 3), ("axis", True), ("axis", -1), ("axis", 0, 0), ("number", -1),
    ("number", True), ("number",), ("field", "x"), ("field", 1), ("field", "A"), ("sum", ()), ("sum", ((1, X),)),
    ("sum", ((-1, X), X)), ("sum", ((2, X), (1, X))), ("sum", ((True, X), (1, X))), ("sum", [(1, X), (1, X)]),
    ("sum", ([1, X], (1, X))), ("sum", ((1, X), (1, X)), 1), ("product", (X,)), ("product", (X,) * 7), ("product", ()),
    ("product", [X, X]), ("product", X, X), ("min", X), ("max", X, X, X), ("min", (X, X)), ("abs",), ("abs", X, X), ("abs", 1),
    ("abs", ("all",)), ("mean", X, X), (X,), ("min", X, ("axis", 5)), ("product", (X, ("product", (X,)))))


class ExpressionTextsTest(unittest.TestCase):

    def check_line(self, text, tree, line=None, space=PLANE):
        self.assertEqual(read_expression(space, NAMES, text), tree)
        line = text if line is None else line
        self.assertEqual(expression_line(tree), line)
        self.assertEqual(read_expression(space, NAMES, line), tree)

    def test_examples(self):
        told = read_expression(PLANE, (), "2-x*x")
        self.assertEqual(told, ("sum", ((1, number(2)), (-1, ("product", (X, X))))))
        self.assertEqual(expression_line(told), "2 - x * x")

    def test_trees(self):
        self.check_line("0", number(0))
        self.check_line("9999999", number(9999999))
        self.check_line("((x))", X, "x")
        self.check_line("-x", ("sum", ((-1, X),)))
        self.check_line("-(-x)", ("sum", ((-1, ("sum", ((-1, X),))),)))
        self.check_line("-x * y", ("sum", ((-1, ("product", (X, Y))),)))
        self.check_line("(-x) * y", ("product", (("sum", ((-1, X),)), Y)))
        self.check_line("x + y - a", ("sum", ((1, X), (1, Y), (-1, A))))
        self.check_line("(x+y)-a", ("sum", ((1, ("sum", ((1, X), (1, Y)))), (-1, A))), "(x + y) - a")
        self.check_line("x - (y - a)", ("sum", ((1, X), (-1, ("sum", ((1, Y), (-1, A)))))))
        self.check_line("x + (-y)", ("sum", ((1, X), (1, ("sum", ((-1, Y),))))))
        self.check_line("x * y * a", ("product", (X, Y, A)))
        self.check_line("(x * y) * a", ("product", (("product", (X, Y)), A)))
        self.check_line("x * (y * a)", ("product", (X, ("product", (Y, A)))))
        self.check_line("x+(y*a)", ("sum", ((1, X), (1, ("product", (Y, A))))), "x + y * a")
        self.check_line("x*y*a*x*y*a", ("product", (X, Y, A, X, Y, A)), "x * y * a * x * y * a")
        self.check_line("abs(-x)", ("abs", ("sum", ((-1, X),))))
        self.check_line("min(x,-y+1)", ("min", X, ("sum", ((-1, Y), (1, number(1))))), "min(x, -y + 1)")
        self.check_line("max((x), ((y)))", ("max", X, Y), "max(x, y)")
        self.check_line("2 * max(x, abs(y)) * (x + 1)",
                        ("product", (number(2), ("max", X, ("abs", Y)), ("sum", ((1, X), (1, number(1)))))))
        self.check_line("abs (x)", ("abs", X), "abs(x)")
        self.check_line("z * r0", ("product", (Z, ("field", "r0"))), None, SPACE)
        self.check_line("1 * x", ("product", (number(1), X)))
        self.check_line("x - 0", ("sum", ((1, X), (-1, number(0)))))

    def test_wrong_texts(self):
        for text, at in (
                ("", 0), ("x +", 3), ("x y", 2), ("+x", 0), ("--x", 1), ("x - -y", 4), ("x * -y", 4), ("z", 0), ("d", 0),
                ("min(x)", 5), ("min(x, y, x)", 8), ("abs(x, y)", 5), ("abs x", 4), ("min", 3), ("min(", 4), ("max(x,", 6),
                ("()", 1), ("(x", 2), ("(x))", 3), ("x*x*x*x*x*x*x", 11), ("(x*x*x*x*x*x*x)", 12), ("min(x*x*x*x*x*x*x, 1)", 15),
                ("x*x*x*x*x*x+x*x*x*x*x*x*x", 23), ("01", 0), ("12345678", 0), ("1.5", 1), ("a.b", 0), ("x = y", 2), ("x,y", 1),
                ("(x, y)", 2), ("low x", 0), ("all", 0), ("abs", 3), ("- ", 2), ("x;", 1), ("2x", 1), ("x2", 0), ("(-)", 2),
                ("(- -x)", 3), ("min(-x, --y)", 9), ("x(", 1), ("3(x)", 1), ("abs(abs)", 7)):
            check_wrong_text(self, lambda told: read_expression(PLANE, NAMES, told), text, at)
        check_wrong_text(self, lambda told: read_expression(PLANE, (), told), "a", 0)

    def test_deep_brackets(self):
        self.assertEqual(read_expression(PLANE, (), "(" * 2000 + "x" + ")" * 2000), X)
        check_wrong_text(self, lambda told: read_expression(PLANE, (), told), "(" * 5000, 5000)
        check_wrong_text(self, lambda told: read_expression(PLANE, (), told), "abs(" * 1500 + ")", 6000)

    def test_there_and_back(self):
        rolls = random.Random(21)
        for k in range(600):
            dims = 2 + k % 2
            tree = random_expression(rolls, dims, NAMES, 4)
            line = expression_line(tree)
            self.assertEqual(read_expression((dims, 3), NAMES, line), tree)
            self.assertEqual(line, spaced(line))
            loose = line.replace(" ", "").replace("(", " ( ")
            self.assertEqual(read_expression((dims, 3), NAMES, loose), tree)
            self.check_value(rolls, dims, line, tree)
            self.check_brackets(dims, line, tree)

    def check_value(self, rolls, dims, line, tree):
        """The line has the value that Python reckons for it."""
        x, y, z = point = tuple(rolls.randrange(-5, 6) for _ in range(3))
        known = {"x": x, "y": y, "z": z, "a": 3, "b1": x - y, "r0": x * y, "abs": abs, "min": min, "max": max}
        self.assertEqual(value_of(FIELDS, tree, point), eval(line, {"__builtins__": {}}, known))

    def check_brackets(self, dims, line, tree):
        """No brackets may go, but those behind min, max, abs."""
        for match in re.finditer(r"(?<![a-z])\(", line):
            at = match.start()
            level, end = 1, at
            while level:
                end += 1
                level += {"(": 1, ")": -1}.get(line[end], 0)
            bare = line[:at] + " " + line[at + 1:end] + " " + line[end + 1:]
            try:
                self.assertNotEqual(read_expression((dims, 3), NAMES, bare), tree)
            except ValueError:
                pass

    def test_spoilt_texts(self):
        rolls = random.Random(22)
        wrong = 0
        for k in range(3000):
            dims = 2 + k % 2
            text = spoilt(rolls, expression_line(random_expression(rolls, dims, NAMES, 3)), WORDS)[:300]
            at = wrong_at(text, "EXPR", "region", dims, {"NAME": NAMES})
            call = lambda told: read_expression((dims, 1), NAMES, told)
            if at is None:
                call(text)
            else:
                wrong += 1
                check_wrong_text(self, call, text, at)
        self.assertGreater(wrong, 1000)

    def test_parameters(self):
        good = [("space", PLANE), ("names", ("a",)), ("text", "a + x")]
        check_parameters(self, read_expression, good, {"names": WRONG_NAMES, "text": WRONG_TEXTS})
        check_parameters(self, expression_line, [("expression", X)], {"expression": WRONG_EXPRESSIONS})


if __name__ == "__main__":
    unittest.main()
