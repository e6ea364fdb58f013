"""Sums, tests and texts, [33], [35]."""

import random
import unittest

from grammar import spaced, wrong_at
from tools import PLANE, WRONG_NAMES, WRONG_TEXTS, check_parameters, check_wrong_text
from trees import random_sum, random_test, spoilt
from wholefaces.testtexts import read_sum, read_test, sum_line, test_line

# The function is none of the tests.
line_of_test = test_line
del test_line

SPACE = (3, 1)
ONE = ("one",)
LEVEL = ("level",)
REGIONS, FIELDS = ("a", "b"), ("f", "g2")
WORDS = ("generation", "level", "stage", "size", "low", "high", "least", "most", "error", "x", "y", "z", "f", "g2", "a", "b",
         "in", "out", "cut", "has", "corner", "bad", "not", "and", "or", "(", ")", ",", "<", "<=", "=", ">", ">=", "+", "-", "*",
         "0", "7", "01", "12345678", "r1", "r1.01", "r1.", "r01", "r1.2", "one", "A", ";")
SUM = ("sum", ((1, ONE),))
WRONG_SUMS = (None, True, 1, "level", ["sum", ((1, ONE),)], (), ("sum",), ("sum", ()), ("sum", [(1, ONE)]),
              ("sum", ([1, ONE],)), ("sum", ((True, ONE),)), ("sum", ((1, ("two",)),)), ("sum", ((1, "one"),)),
              ("sum", ((1, ("one", 0)),)), ("sum", ((1, ("low",)),)), ("sum", ((1, ("low", 3)),)),
              ("sum", ((1, ("high", True)),)), ("sum", ((1, ("least", "x")),)), ("sum", ((1, ("error", 0)),)),
              ("sum", ((1, ONE, 1),)), ("sum", ((1, ONE),), 1), ("product", ((1, ONE),)), ("sum", ((1, ["one"]),)))
WRONG_TESTS = (None, True, 1, "bad ()", ["bad", ()], (), ("bad",), ("bad", []), ("bad", ((0, ""), 1)), ("bad", ((0, "2"),)),
               ("bad", ((True, ""),)), ("bad", ((-1, ""),)), ("bad", ([0, ""],)), ("bad", ((0, "", 1),)), ("bad", ((0, None),)),
               ("compare", "<", SUM), ("compare", "!=", SUM, SUM), ("compare", SUM, SUM), ("compare", "<", SUM, ("sum", ())),
               ("compare", ["<"], SUM, SUM), ("in", "all"), ("in", 1), ("in",), ("in", "a", "b"), ("out", "A"), ("cut", None),
               ("has", (0,)), ("has", [0, 0]), ("has", (0, True)), ("has", 0, 0), ("corner", ((0, 0),)), ("not",),
               ("not", ("bad", ()), ("bad", ())), ("and", ("bad", ())), ("or", ("bad", ()), ("all",)), ("all",), ("name", "a"),
               ("and", ("has", (0, 0)), ("has", (0, 0, 0))),
               ("or", ("corner", (0, 0)), ("compare", "<", SUM, ("sum", ((1, ("low", 2)),)))))


def compare(mark, one, other):
    """A comparison of two sums of parts."""
    return ("compare", mark, ("sum", one), ("sum", other))


class TestTextsTest(unittest.TestCase):

    def check_sum(self, text, parts, line=None, space=PLANE):
        tree = ("sum", parts)
        self.assertEqual(read_sum(space, FIELDS, text), tree)
        line = text if line is None else line
        self.assertEqual(sum_line(tree), line)
        self.assertEqual(read_sum(space, FIELDS, line), tree)

    def check_test(self, text, tree, line=None, space=PLANE):
        self.assertEqual(read_test(space, REGIONS, FIELDS, text), tree)
        line = text if line is None else line
        self.assertEqual(line_of_test(tree), line)
        self.assertEqual(read_test(space, REGIONS, FIELDS, line), tree)

    def test_example(self):
        told = read_test(PLANE, (), (), "-level+2<3 and(not bad(r1.01))")
        self.assertEqual(line_of_test(told), "-level + 2 < 3 and not bad (r1.01)")
        self.assertEqual(told, ("and", compare("<", ((-1, LEVEL), (2, ONE)), ((3, ONE),)), ("not", ("bad", ((1, "01"),)))))

    def test_sums(self):
        self.check_sum("0", ((0, ONE),))
        self.check_sum("-0", ((0, ONE),), "0")
        self.check_sum("3 - 0", ((3, ONE), (0, ONE)), "3 + 0")
        self.check_sum("level", ((1, LEVEL),))
        self.check_sum("1*level", ((1, LEVEL),), "level")
        self.check_sum("-1 * level", ((-1, LEVEL),), "-level")
        self.check_sum("0*level-0*size", ((0, LEVEL), (0, ("size",))), "0 * level + 0 * size")
        self.check_sum("-5*stage-1*generation-1", ((-5, ("stage",)), (-1, ("generation",)), (-1, ONE)),
                       "-5 * stage - generation - 1")
        self.check_sum("low x + 2 * high y", ((1, ("low", 0)), (2, ("high", 1))))
        self.check_sum("high z", ((1, ("high", 2)),), None, SPACE)
        self.check_sum("least f - 3 * most g2 + error f", ((1, ("least", "f")), (-3, ("most", "g2")), (1, ("error", "f"))))
        self.check_sum("4 - size", ((4, ONE), (-1, ("size",))))
        self.check_sum("9999999", ((9999999, ONE),))

    def test_tests(self):
        self.check_test("in a", ("in", "a"))
        self.check_test("out a or cut b", ("or", ("out", "a"), ("cut", "b")))
        self.check_test("has(0,-1)", ("has", (0, -1)), "has (0, -1)")
        self.check_test("corner (1, 2, 3)", ("corner", (1, 2, 3)), None, SPACE)
        self.check_test("bad ()", ("bad", ()))
        self.check_test("bad(r0,r12.0101 ,r1)", ("bad", ((0, ""), (12, "0101"), (1, ""))), "bad (r0, r12.0101, r1)")
        for mark in ("<", "<=", "=", ">", ">="):
            self.check_test(f"level{mark}-2", compare(mark, ((1, LEVEL),), ((-2, ONE),)), f"level {mark} -2")
        self.check_test("not level < 3", ("not", compare("<", ((1, LEVEL),), ((3, ONE),))))
        self.check_test("not (in a and in b) or in a",
                        ("or", ("not", ("and", ("in", "a"), ("in", "b"))), ("in", "a")))
        self.check_test("in a and (in b and in a)", ("and", ("in", "a"), ("and", ("in", "b"), ("in", "a"))))
        self.check_test("(-level < 1 or in a) and not not in b",
                        ("and", ("or", compare("<", ((-1, LEVEL),), ((1, ONE),)), ("in", "a")),
                         ("not", ("not", ("in", "b")))))

    def test_wrong_sums(self):
        for text, at in (
                ("", 0), ("-", 1), ("--1", 1), ("+1", 0), ("1 2", 2), ("1 *", 3), ("1 * 2", 4), ("level * 2", 6), ("low", 3),
                ("low z", 4), ("low f", 4), ("least x", 6), ("least a", 6), ("error", 5), ("1 + -2", 4), ("(1)", 0), ("01", 0),
                ("12345678", 0), ("one", 0), ("x", 0), ("1 < 2", 2), ("level;", 5), ("2 * - level", 4), ("2 + ", 4),
                ("most f.g", 5)):
            check_wrong_text(self, lambda told: read_sum(PLANE, FIELDS, told), text, at)
        check_wrong_text(self, lambda told: read_sum(PLANE, (), told), "least f", 6)
        check_wrong_text(self, lambda told: read_sum(PLANE, (), told), "least", 5)

    def test_wrong_tests(self):
        for text, at in (
                ("", 0), ("level", 5), ("level <", 7), ("level < <", 8), ("level < 1 < 2", 10), ("level => 2", 7), ("in", 2),
                ("in f", 3), ("in all", 3), ("out d", 4), ("has", 3), ("has (1)", 6), ("has (1, 2, 3)", 9), ("corner 1", 7),
                ("bad", 3), ("bad r1", 4), ("bad (", 5), ("bad (,", 5), ("bad (r1", 7), ("bad (r1,)", 8), ("bad (r1 r2)", 8),
                ("bad (r01)", 5), ("bad (r1.)", 5), ("bad (r1.2)", 5), ("bad (r1.0.1)", 5), ("bad (r)", 5), ("bad (1)", 5),
                ("bad (r12345678)", 5), ("bad (r1234567.0)", None), ("bad (x1)", 5), ("bad (rr1)", 5), ("a", 0), ("all", 0),
                ("not", 3), ("(in a", 5), ("(level) < 2", 6), ("in a)", 4), ("level < 2 and", 13), ("least a < 2", 6),
                ("bad () ()", 7), ("box (0, 0) (1, 1)", 0), ("1 = 1 or or", 9), ("2 * 3 < 1", 4), ("in a A", 5)):
            call = lambda told: read_test(PLANE, REGIONS, FIELDS, told)
            if at is None:
                call(text)
            else:
                check_wrong_text(self, call, text, at)
        check_wrong_text(self, lambda told: read_test(SPACE, (), (), told), "has (1, 2)", 9)
        check_wrong_text(self, lambda told: read_test(SPACE, (), (), told), "in a", 3)

    def test_there_and_back(self):
        rolls = random.Random(31)
        for k in range(600):
            dims = 2 + k % 2
            tree = random_test(rolls, dims, REGIONS, FIELDS, 4)
            line = line_of_test(tree)
            self.assertEqual(read_test((dims, 3), REGIONS, FIELDS, line), tree)
            self.assertEqual(line, spaced(line))
            loose = line.replace(" ", "  ").replace("(", "( ").replace(",", " ,")
            self.assertEqual(read_test((dims, 3), REGIONS, FIELDS, loose), tree)
            parts = random_sum(rolls, dims, FIELDS)
            line = sum_line(parts)
            self.assertEqual(read_sum((dims, 3), FIELDS, line), parts)
            self.assertEqual(line, spaced(line))

    def test_spoilt_texts(self):
        rolls = random.Random(32)
        wrong = 0
        for k in range(4000):
            dims = 2 + k % 2
            names = {"REGNAME": REGIONS, "FIELD": FIELDS}
            if k % 4 == 0:
                text = spoilt(rolls, sum_line(random_sum(rolls, dims, FIELDS)), WORDS)
                at = wrong_at(text, "SUM", "test", dims, names)
                call = lambda told: read_sum((dims, 1), FIELDS, told)
            else:
                text = spoilt(rolls, line_of_test(random_test(rolls, dims, REGIONS, FIELDS, 3)), WORDS)
                at = wrong_at(text, "REGION", "test", dims, names)
                call = lambda told: read_test((dims, 1), REGIONS, FIELDS, told)
            if at is None:
                call(text)
            else:
                wrong += 1
                check_wrong_text(self, call, text, at)
        self.assertGreater(wrong, 2000)

    def test_parameters(self):
        good = [("space", PLANE), ("fields", ("f",)), ("text", "least f")]
        check_parameters(self, read_sum, good, {"fields": WRONG_NAMES, "text": WRONG_TEXTS})
        good = [("space", PLANE), ("regions", ("a",)), ("fields", ("f",)), ("text", "in a and least f < 2")]
        check_parameters(self, read_test, good, {"regions": WRONG_NAMES, "fields": WRONG_NAMES, "text": WRONG_TEXTS})
        check_parameters(self, sum_line, [("parts", SUM)], {"parts": WRONG_SUMS})
        check_parameters(self, line_of_test, [("test", ("bad", ()))], {"test": WRONG_TESTS})


if __name__ == "__main__":
    unittest.main()
