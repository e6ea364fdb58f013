"""Regions and texts, [33]."""

import random
import unittest

from grammar import spaced, wrong_at
from tools import PLANE, WRONG_NAMES, WRONG_TEXTS, check_parameters, check_wrong_text
from trees import random_region, spoilt
from wholefaces.regiontexts import read_region, region_line

SPACE = (3, 1)
ALL = ("all",)
A, B, C = ("name", "a"), ("name", "b"), ("name", "c")
NAMES = ("a", "b", "c", "abcdefghijk1")
WORDS = ("all", "box", "upto", "not", "and", "or", "a", "b", "d", "x", "y", "z", "(", ")", ",", "<=", "<", "+", "-", "*",
         "0", "7", "01", "12345678", "1234567", "a.b", "A", "in", "bad", ";")
WRONG_REGIONS = (None, True, "all", ["all"], (), ("all", 1), ("none",), ("name", "all"), ("name", "A"), ("name", 1), ("not",),
                 ("not", ALL, ALL), ("and", ALL), ("or", ALL, ALL, ALL), ("and", ALL, ["all"]), ("not", ("number", 1)),
                 ("box", (0, 0), (1, 0)), ("box", (0, 0), (1, 1, 1)), ("box", (0, 0)), ("box", (0, 0), (1, True)),
                 ("upto", (), 0), ("upto", ((0, -1),), 0), ("upto", ((0, True),), 0), ("upto", ((3, 1),), 0),
                 ("upto", ((0, 1), (0, 1)), 0), ("upto", ((0, 1), (1, 2)), 0), ("upto", ((0, 1), (1, 1)), 1),
                 ("upto", ((0, 1), (1, 1), (2, 1)), 0), ("upto", ((0, 1),), True), ("upto", ((False, 1),), 0),
                 ("and", ("box", (0, 0), (1, 1)), ("box", (0, 0, 0), (1, 1, 1))),
                 ("or", ("upto", ((2, 1),), 0), ("box", (0, 0), (1, 1))), (ALL, ALL), ("not", ("and", ALL)))


class RegionTextsTest(unittest.TestCase):

    def check_line(self, text, tree, line=None, space=PLANE):
        self.assertEqual(read_region(space, NAMES, text), tree)
        line = text if line is None else line
        self.assertEqual(region_line(tree), line)
        self.assertEqual(read_region(space, NAMES, line), tree)

    def test_examples(self):
        self.assertEqual(region_line(read_region(PLANE, ("a",), "not(a)or upto x-y<=-2")),
                         "not a or upto x - y <= -2")
        check_wrong_text(self, lambda text: read_region(PLANE, (), text), "upto x + y <= -3", 15)

    def test_trees(self):
        self.check_line("all", ALL)
        self.check_line("  all ", ALL, "all")
        self.check_line("abcdefghijk1", ("name", "abcdefghijk1"))
        self.check_line("a or b or c", ("or", ("or", A, B), C))
        self.check_line("a or (b or c)", ("or", A, ("or", B, C)))
        self.check_line("(a or b)or c", ("or", ("or", A, B), C), "a or b or c")
        self.check_line("a and b and c", ("and", ("and", A, B), C))
        self.check_line("a and (b and c)", ("and", A, ("and", B, C)))
        self.check_line("a or b and c", ("or", A, ("and", B, C)))
        self.check_line("(a or b) and c", ("and", ("or", A, B), C))
        self.check_line("a and b or c", ("or", ("and", A, B), C))
        self.check_line("not a and b", ("and", ("not", A), B))
        self.check_line("not (a and b)", ("not", ("and", A, B)))
        self.check_line("not not a", ("not", ("not", A)))
        self.check_line("not(not((a)))", ("not", ("not", A)), "not not a")
        self.check_line("((((all))))", ALL, "all")
        self.check_line("box (-1, 0) (4, 12)", ("box", (-1, 0), (4, 12)))
        self.check_line("box(- 1,-0)( 4 ,12 )", ("box", (-1, 0), (4, 12)), "box (-1, 0) (4, 12)")
        self.check_line("upto x <= -0", ("upto", ((0, 1),), 0), "upto x <= 0")
        self.check_line("upto y <= 9999999", ("upto", ((1, 1),), 9999999))
        self.check_line("upto y - x <= 8", ("upto", ((1, 1), (0, -1)), 8))
        self.check_line("upto x + z <= -2", ("upto", ((0, 1), (2, 1)), -2), None, SPACE)
        self.check_line("box (0, 0, -5) (1, 1, -4)", ("box", (0, 0, -5), (1, 1, -4)), None, SPACE)
        self.check_line("not upto x <= 1 and not box (0, 0) (1, 1)",
                        ("and", ("not", ("upto", ((0, 1),), 1)), ("not", ("box", (0, 0), (1, 1)))))

    def test_wrong_texts(self):
        for text, at in (
                ("", 0), ("  ", 2), ("d", 0), ("all all", 4), ("all or", 6), ("all or ", 7), ("or all", 0), ("not", 3),
                ("(all", 4), ("(all))", 5), ("()", 1), ("all)", 3), ("all;", 3), ("; all", 0), ("d ;", 0), ("all A", 4),
                ("box (0, 0) (0, 1)", 12), ("box (0, 0) (1, 0)", 15), ("box (0, 0) (1, -1)", 16), ("box (0, 0, 0)", 9),
                ("box (5, 0) (-1, 1)", 13), ("box (0, 01) (1, 1)", 8), ("box (0 0)", 7), ("box (0, 0)", 10), ("box 0", 4),
                ("box (--1", 6), ("upto z <= 1", 5), ("upto a <= 1", 5), ("upto x + x <= 2", 9), ("upto x - z <= 2", 9),
                ("upto x < 1", 7), ("upto x <= y", 10), ("upto x + y <= 1", 14), ("upto x + y + x <= 1", 11),
                ("upto -x <= 1", 5), ("upto x <= 12345678", 10), ("upto x <= 00", 10), ("upto x <= - 5 5", 14),
                ("upto x * y <= 2", 7), ("all andall", 4), ("a.b", 0), ("not and", 4), ("in a", 0), ("level < 3", 0),
                ("a or box", 8), ("upto", 4), ("upto x <= -", 11), ("all and or", 8), ("abcdefghijk12", 0), ("all\n", 3)):
            check_wrong_text(self, lambda told: read_region(PLANE, NAMES, told), text, at)
        for text, at in (("box (0, 0) (1, 1)", 9), ("box (0, 0, 0) (1, 1, 0)", 21), ("upto z - z <= 2", 9)):
            check_wrong_text(self, lambda told: read_region(SPACE, NAMES, told), text, at)
        check_wrong_text(self, lambda told: read_region(PLANE, (), told), "all or a", 7)

    def test_deep_brackets(self):
        self.assertEqual(read_region(PLANE, (), "(" * 2000 + "all" + ")" * 2000), ALL)
        check_wrong_text(self, lambda told: read_region(PLANE, (), told), "(" * 5000, 5000)
        check_wrong_text(self, lambda told: read_region(PLANE, (), told), "not " * 1900 + "(", 7601)

    def test_there_and_back(self):
        rolls = random.Random(11)
        for k in range(600):
            dims = 2 + k % 2
            tree = random_region(rolls, dims, NAMES, 4)
            line = region_line(tree)
            self.assertEqual(read_region((dims, 3), NAMES, line), tree)
            self.assertEqual(line, spaced(line))
            loose = line.replace(" ", "   ").replace("(", " ( ").replace(",", " ,")
            self.assertEqual(read_region((dims, 3), NAMES, loose), tree)
            self.check_brackets(dims, line, tree)

    def check_brackets(self, dims, line, tree):
        """No brackets but those of points may go."""
        for at, sign in enumerate(line):
            if sign == "(" and "," not in line[at:line.index(")", at)]:
                level, end = 1, at
                while level:
                    end += 1
                    level += {"(": 1, ")": -1}.get(line[end], 0)
                bare = line[:at] + " " + line[at + 1:end] + " " + line[end + 1:]
                self.assertNotEqual(read_region((dims, 3), NAMES, bare), tree)

    def test_spoilt_texts(self):
        rolls = random.Random(12)
        wrong = 0
        for k in range(3000):
            dims = 2 + k % 2
            text = spoilt(rolls, region_line(random_region(rolls, dims, NAMES, 3)), WORDS)
            at = wrong_at(text, "REGION", "region", dims, {"NAME": NAMES})
            call = lambda told: read_region((dims, 1), NAMES, told)
            if at is None:
                call(text)
            else:
                wrong += 1
                check_wrong_text(self, call, text, at)
        self.assertGreater(wrong, 1500)

    def test_parameters(self):
        good = [("space", PLANE), ("names", ("a",)), ("text", "a")]
        check_parameters(self, read_region, good, {"names": WRONG_NAMES, "text": WRONG_TEXTS})
        check_parameters(self, read_region, good[:1] + [("names", ()), ("text", "all")], {"text": (None,)})
        check_parameters(self, region_line, [("region", ALL)], {"region": WRONG_REGIONS})
        with self.assertRaises(ValueError) as caught:
            read_region(PLANE, ("A",), ";")
        self.assertEqual(caught.exception.word, "names")


if __name__ == "__main__":
    unittest.main()
