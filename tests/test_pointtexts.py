"""Lines of quotients, points and places, [16]."""

import random
import re
import unittest
from math import gcd

from tools import PLANE, WRONG_PLACES, WRONG_POINTS, WRONG_QUOTIENTS, WRONG_TEXTS, check_parameters, check_wrong_text
from wholefaces.errors import InvalidText
from wholefaces.kinds import is_place
from wholefaces.places import place_of
from wholefaces.pointtexts import place_line, point_line, quotient_line, read_place, read_point, read_quotient

SPACE = (3, 2)
INTEGER = re.compile(r"0|-?[1-9][0-9]*")
ENDS = ["", "1", "0", "3", "7", "/2", "/3"] + [f"{k}" for k in range(10, 100)]


def is_quotient_line(text):
    """Whether the text is the line of a quotient."""
    top, slash, bottom = text.partition("/")
    if not INTEGER.fullmatch(top):
        return False
    if slash == "":
        return True
    return bool(re.fullmatch(r"[1-9][0-9]*", bottom)) and int(bottom) > 1 and gcd(int(top), int(bottom)) == 1


def is_row_line(text, many, is_number_line):
    """Whether the text is the line of so many numbers."""
    if not text.startswith("(") or not text.endswith(")"):
        return False
    parts = text[1:-1].split(", ")
    return len(parts) == many and all(is_number_line(part) for part in parts)


def oracle_at(text, is_line, ends):
    """The length of the longest beginning of the text that can be ended to a line."""
    return max(k for k in range(len(text) + 1) if any(is_line(text[:k] + end) for end in ends))


def row_ends(many):
    """Ends of the lines of so many numbers."""
    ends = []
    for k in range(many):
        rest = ", 1" * k + ")"
        ends += [end + rest for end in ENDS] + [" 1" + rest] * (k < many - 1)
    return ends + ["(" + ", ".join(["1"] * many) + ")", ""]


class PointTextsTest(unittest.TestCase):

    def test_examples(self):
        self.assertEqual(quotient_line((-1, 2)), "-1/2")
        self.assertEqual(point_line(PLANE, (3, -4)), "(3, -4)")
        self.assertEqual(place_line(PLANE, (1, 6, 2)), "(1/2, 3)")
        self.assertEqual(read_place(PLANE, "(1/2, 3)"), (1, 6, 2))
        check_wrong_text(self, read_quotient, "2/4", 3)
        check_wrong_text(self, read_quotient, "1/0", 2)
        for text in ("-0", "01", "5 "):
            check_wrong_text(self, read_quotient, text, 1)
        for text in ("(1, 2", "(1, 2, 3)"):
            check_wrong_text(self, lambda told: read_point(PLANE, told), text, 5)

    def test_there_and_back(self):
        for quotient in ((0, 1), (5, 1), (-5, 1), (1, 2), (-7, 12), (10 ** 59, 1), (-1, 10 ** 59)):
            self.assertEqual(read_quotient(quotient_line(quotient)), quotient)
        for point in ((0, 0), (-1, 5), (10 ** 6, -10 ** 6)):
            self.assertEqual(read_point(PLANE, point_line(PLANE, point)), point)
        self.assertEqual(read_point(SPACE, "(0, -12, 3)"), (0, -12, 3))
        self.assertEqual(point_line(SPACE, (0, -12, 3)), "(0, -12, 3)")
        for numbers in ((0, 0, 0), (1, -2, 3), (6, 4, 3), (12, -5, 8)):
            for bottom in (1, 2, 6, 35):
                place = place_of(SPACE, numbers, bottom)
                told = read_place(SPACE, place_line(SPACE, place))
                self.assertEqual(told, place)
                self.assertTrue(is_place(SPACE, told))
        self.assertEqual(place_line(SPACE, (1, 2, 3, 6)), "(1/6, 1/3, 1/2)")
        self.assertEqual(read_place(SPACE, "(1/6, 1/4, -5)"), (2, 3, -60, 12))

    def test_wrong_quotients(self):
        for text, at in (("", 0), ("-", 1), ("--1", 1), ("+1", 0), (" 1", 0), ("1/", 2), ("1/1", 3), ("1/1x", 3),
                         ("0/2", 1), ("0/1", 1), ("00", 1), ("-01", 1), ("1/2/3", 3), ("6/3", 3), ("6/3 ", 3),
                         ("1//2", 2), ("1/-2", 2), ("1.5", 1), ("x", 0), ("12", None), ("1/10", None), ("6/35", None)):
            if at is None:
                read_quotient(text)
            else:
                check_wrong_text(self, read_quotient, text, at)

    def test_wrong_points_and_places(self):
        for text, at in (("", 0), ("1, 2", 0), ("(", 1), ("()", 1), ("(1,2)", 3), ("(1 , 2)", 2), ("(1,  2)", 4),
                         ("( 1, 2)", 1), ("(1, 2) ", 6), ("(1, 2)(", 6), ("(1)", 2), ("(-0, 1)", 2), ("(1, -", 5),
                         ("(1, -)", 5), ("[1, 2]", 0), ("(01, 2)", 2), ("(1, 2\n)", 5), ("(1,", 3), ("(1, ", 4)):
            check_wrong_text(self, lambda told: read_point(PLANE, told), text, at)
            check_wrong_text(self, lambda told: read_place(PLANE, told), text, at)
        for text, at in (("(1/2, 3)", 2), ("(1, 3/2)", 5)):
            check_wrong_text(self, lambda told: read_point(PLANE, told), text, at)
        for text, at in (("(2/4, 1)", 4), ("(2/4", 4), ("(1/1, 1)", 4), ("(0/2, 1)", 2), ("(1, 4/6)", 7),
                         ("(1/2, 3/2, 1)", 9), ("(1/02, 3)", 3)):
            check_wrong_text(self, lambda told: read_place(PLANE, told), text, at)
        check_wrong_text(self, lambda told: read_point(SPACE, told), "(1, 2)", 5)
        check_wrong_text(self, lambda told: read_place(SPACE, told), "(1, 1/2)", 7)
        self.assertEqual(read_point(SPACE, "(1, 2, 3)"), (1, 2, 3))

    def check_against_oracle(self, read, is_line, ends, text):
        if is_line(text):
            read(text)
        else:
            check_wrong_text(self, read, text, oracle_at(text, is_line, ends))

    def test_spoilt_texts(self):
        rolls = random.Random(5)
        lines = ["(1/2, -3)", "(-12/35, 0)", "(7, 10/9)", "(0, 0)", "(4/9, 25/6)"]
        is_point_line = lambda text: is_row_line(text, 2, lambda part: bool(INTEGER.fullmatch(part)))
        is_place_line = lambda text: is_row_line(text, 2, is_quotient_line)
        for k in range(1500):
            line = rolls.choice(lines)
            at = rolls.randrange(len(line))
            text = line[:at] + rolls.choice(["", "0", "1", "2", "/", "-", " ", ",", ")", "("]) + line[at + rolls.randrange(2):]
            self.check_against_oracle(lambda told: read_place(PLANE, told), is_place_line, row_ends(2), text)
            self.check_against_oracle(lambda told: read_point(PLANE, told), is_point_line, row_ends(2), text)
            part = text[1:].partition(",")[0]
            self.check_against_oracle(read_quotient, is_quotient_line, ENDS, part)

    def test_parameters(self):
        check_parameters(self, quotient_line, [("quotient", (1, 2))], {"quotient": WRONG_QUOTIENTS})
        check_parameters(self, point_line, [("space", PLANE), ("point", (1, 2))], {"point": WRONG_POINTS})
        check_parameters(self, place_line, [("space", PLANE), ("place", (1, 2, 2))], {"place": WRONG_PLACES})
        check_parameters(self, read_quotient, [("text", "1/2")], {"text": WRONG_TEXTS})
        check_parameters(self, read_point, [("space", PLANE), ("text", "(1, 2)")], {"text": WRONG_TEXTS})
        check_parameters(self, read_place, [("space", PLANE), ("text", "(1, 2)")], {"text": WRONG_TEXTS})
        self.assertRaises(InvalidText, read_quotient, "")


if __name__ == "__main__":
    unittest.main()
