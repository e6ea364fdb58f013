"""The lines that a desk is asked, [103]."""

import random
import re
import unittest

from grammar import fits, opened, parted, rules_for, spaced
from test_treekinds import PLAN
from tools import WRONG_TEXTS, check_parameters
from trees import random_point, random_test, spoilt
from wholefaces.deskwords import read_line
from wholefaces.errors import InvalidText
from wholefaces.pointtexts import point_line
from wholefaces.testtexts import test_line as line_of_test
from wordlists import RESERVED

ALL = ("all",)
FLAT_PLAN = (2, 2, 1, 2, (("a", ALL), ("mesh", ALL)), ALL, (("f", ("axis", 0)), ("skin", ("axis", 1))),
             (("w", ("sum", ((1, ("one",)),))), ("best", ("sum", ((1, ("level",)),)))), (("c", ("bad", ())),))
DEEP_PLAN = (3, 1, 1, 2, (("a", ALL),), ALL, (("f", ("axis", 2)),), (("w", ("sum", ((1, ("one",)),))),), ())
LINES = ["wish NEW : REGION", "change NEW : REGION", "chain NEW : REGION", "drop NEW", "implies NEW NEW", "corner POINT", "why POINT", "blame POINT",
         "walk POINT POINT", "total FIELD", "skin FIELD INT", "best WORTH NUMBER", "stairs WORTH", "mesh", "blocks", "form", "save", "undo"]
WORDS = ["wish", "change", "chain", "drop", "implies", "corner", "why", "blame", "walk", "total", "skin", "best", "stairs", "mesh", "blocks", "form",
         "save", "undo", "a", "f", "w", "c", "x", ":", "(", ")", ",", "-", "0", "12", "bad", "r0", "level", "<", "in", "not", ";", "A", "all"]
# Words that stand first in lines, but may be names, too.
FREE_WORDS = [word for word in WORDS[:18] if word not in RESERVED]


def may_stand(symbol, word, dims, names):
    """Whether a word is of a kind that is no rule."""
    if symbol == "NEW":
        return re.fullmatch("[a-z][a-z0-9]{0,11}", word) is not None and word not in RESERVED
    return fits(symbol, word, dims, names)


def wrong_at(plan, line):
    """The place told by InvalidText for a line, None if it is right."""
    rules = {**rules_for(plan[0], "test"), "LINE": LINES}
    names = {"REGNAME": [name for name, _ in plan[4]], "FIELD": [name for name, _ in plan[6]], "WORTH": [name for name, _ in plan[7]]}
    pairs, end = parted(line)
    stacks = {("LINE",)}
    for word, at in pairs:
        stacks = {found for stack in stacks for found in opened(rules, stack)}
        stacks = {stack[1:] for stack in stacks if stack and may_stand(stack[0], word, plan[0], names)}
        if not stacks:
            return at
    if end < len(line):
        return end
    return None if () in {found for stack in stacks for found in opened(rules, stack)} else len(line)


def draw_line(rolls, plan):
    """The tuple of a line, and the line, spaced as usual."""
    word = rolls.choice([line.split()[0] for line in LINES])
    dims, regions = plan[0], [name for name, _ in plan[4]]
    fields, worths = [name for name, _ in plan[6]], [name for name, _ in plan[7]]
    name = lambda: rolls.choice(["a", "b", "c2", "f", "w", "abcdefghijkl"] + FREE_WORDS)
    if word in ("wish", "change", "chain"):
        told = (word, name(), random_test(rolls, dims, regions, fields, 2))
        return told, f"{word} {told[1]} : {line_of_test(told[2])}"
    if word == "drop":
        told = (word, name())
    elif word == "implies":
        told = (word, name(), name())
    elif word in ("corner", "why", "blame"):
        told = (word, random_point(rolls, dims))
    elif word == "walk":
        told = (word, random_point(rolls, dims), random_point(rolls, dims))
    elif word == "total":
        told = (word, rolls.choice(fields))
    elif word == "skin":
        told = (word, rolls.choice(fields), rolls.randrange(-99, 100))
    elif word == "best":
        told = (word, rolls.choice(worths), rolls.randrange(100))
    else:
        told = (word, rolls.choice(worths)) if word == "stairs" else (word,)
    parts = [point_line((dims, 0), part) if isinstance(part, tuple) else str(part) for part in told]
    return told, " ".join(parts)


class DeskWordsTest(unittest.TestCase):

    def check(self, plan, line):
        """Checks a line against the grammar."""
        at = wrong_at(plan, line)
        if at is None:
            self.assertIsInstance(read_line(plan, line), tuple)
            return None
        with self.subTest(line=line):
            with self.assertRaises(InvalidText) as caught:
                read_line(plan, line)
            self.assertEqual((caught.exception.line, caught.exception.at), (0, at))
        return at

    def test_each_kind(self):
        bad = ("bad", ((1, ""),))
        level = ("compare", ">", ("sum", ((1, ("level",)),)), ("sum", ((2, ("one",)),)))
        for line, told in (("wish a : bad (r1)", ("wish", "a", bad)), ("change a : in mesh", ("change", "a", ("in", "mesh"))),
                           ("chain b:level>2", ("chain", "b", level)), ("drop a", ("drop", "a")), (" implies a  b ", ("implies", "a", "b")),
                           ("corner (0, 4)", ("corner", (0, 4))), ("why (-2, 0)", ("why", (-2, 0))), ("blame(2,0)", ("blame", (2, 0))),
                           ("walk (0, 0) (4, -1)", ("walk", (0, 0), (4, -1))), ("total f", ("total", "f")), ("total skin", ("total", "skin")),
                           ("skin f 8", ("skin", "f", 8)), ("skin skin - 8", ("skin", "skin", -8)), ("best w 0", ("best", "w", 0)),
                           ("best best 9999999", ("best", "best", 9999999)), ("stairs w", ("stairs", "w")), ("mesh", ("mesh",)),
                           ("blocks", ("blocks",)), ("form", ("form",)), ("save", ("save",)), ("  undo", ("undo",)), ("drop mesh", ("drop", "mesh")),
                           ("implies undo drop", ("implies", "undo", "drop")), ("wish total : bad ()", ("wish", "total", ("bad", ())))):
            self.assertEqual(read_line(FLAT_PLAN, line), told)
            self.assertIsNone(self.check(FLAT_PLAN, line))
        self.assertEqual(read_line(DEEP_PLAN, "walk (0, 0, 0) (4, -1, 2)"), ("walk", (0, 0, 0), (4, -1, 2)))

    def test_wrong_words(self):
        for line, at in (("", 0), ("   ", 3), ("halve", 0), ("wish", 4), ("wish a", 6), ("wish corner : bad ()", 5), ("wish a = bad ()", 7),
                         ("wish a : ", 9), ("wish a : in f", 12), ("wish a : in c", 12), ("wish a : least a > 1", 15), ("mesh mesh", 5), ("drop", 4),
                         ("drop a b", 7), ("drop 1", 5), ("implies a", 9), ("implies a x", 10), ("corner 2", 7), ("corner (2, 2, 2)", 12),
                         ("corner (2)", 9), ("why (x, 0)", 5), ("blame (2, 0) 1", 13), ("walk (0, 0)", 11), ("total w", 6), ("total", 5), ("total a", 6),
                         ("skin f", 6), ("skin f x", 7), ("skin f --8", 8), ("skin f 08", 7), ("skin f 8 8", 9), ("best f 1", 5), ("best w -1", 7),
                         ("best w", 6), ("best w 12345678", 7), ("best w 1/2", 8), ("stairs", 6), ("stairs f", 7), ("stairs w 1", 9), ("save ;", 5),
                         ("; save", 0), ("undo undo", 5), ("form\t", 4), ("Mesh", 0), ("change a bad ()", 9), ("chain a : ;", 10), ("mesh.", 0)):
            self.assertEqual(self.check(FLAT_PLAN, line), at, line)
        self.assertEqual(self.check(DEEP_PLAN, "corner (2, 2)"), 12)

    def test_drawn_lines(self):
        rolls = random.Random(103)
        right = 0
        for k in range(1500):
            plan = rolls.choice((FLAT_PLAN, DEEP_PLAN, PLAN))
            told, line = draw_line(rolls, plan)
            self.assertEqual(read_line(plan, line), told)
            self.assertIsNone(wrong_at(plan, line))
            self.assertEqual(read_line(plan, line.replace(" ", "  ") + " "), told)
            right += self.check(plan, spoilt(rolls, line, WORDS)) is None
        self.assertGreater(right, 30)
        self.assertLess(right, 1000)

    def test_lines_as_written(self):
        rolls = random.Random(104)
        for _ in range(60):
            told, line = draw_line(rolls, FLAT_PLAN)
            if told[0] in ("wish", "change", "chain"):
                self.assertEqual(read_line(FLAT_PLAN, spaced(line)), told)

    def test_parameters(self):
        plans = (None, True, 0, "", "space 2\n", (), FLAT_PLAN[:8], list(FLAT_PLAN), FLAT_PLAN[:3] + (5,) + FLAT_PLAN[4:], FLAT_PLAN + (0,))
        lines = WRONG_TEXTS + ("save\n", "\n", "drop a\ndrop b")
        check_parameters(self, read_line, [("plan", FLAT_PLAN), ("line", "drop a")], {"plan": plans, "line": lines})


if __name__ == "__main__":
    unittest.main()
