"""The desk, [104] and [105]."""

import random
import unittest
from math import gcd

from test_deskwords import WORDS, wrong_at
from tools import WRONG_TEXTS, check_parameters
from trees import spoilt
from wholefaces.answers import parted_by, standing_of
from wholefaces.beside import round_point
from wholefaces.bestlots import best_of
from wholefaces.blame import blame_of
from wholefaces.counts import by_generation, many_of
from wholefaces.desk import Desk, desk_of
from wholefaces.deskwords import read_line
from wholefaces.errors import CutRoot, EmptySolid, InvalidText, NotUsable, Refused
from wholefaces.extremes import least_of
from wholefaces.forms import form_of
from wholefaces.frames import frame_of
from wholefaces.goodness import all_of
from wholefaces.integrals import total_of
from wholefaces.journals import Journal, read_journal
from wholefaces.meshclasses import Mesh
from wholefaces.mustclasses import Musts
from wholefaces.plantexts import read_plan
from wholefaces.reaching import forced_chain
from wholefaces.skins import crossing_of, skin_of
from wholefaces.stairs import stairs_of
from wholefaces.testtexts import test_line as line_of_test
from wholefaces.walks import walk_of
from wholefaces.worths import block_worths

BASE = "space 2\nrounds 2\ncubes 1\ndeep 2\nsolid all\n"
PLAN = BASE + "field f = x * x\nworth w = 4 - size\nworth v = 3 * level - most f\nwish a : bad (r1)\nwish b : bad (r1.0)\n"
SPACE = "space 3\nrounds 1\ncubes 1\ndeep 3\nsolid upto x - y <= 0\nfield f = x + y * z\nworth w = generation - 2\n"


def quotient(told):
    """The line of a quotient."""
    return str(told[0]) if told[1] == 1 else f"{told[0]}/{told[1]}"


def point(told):
    """The line of a point."""
    return "(" + ", ".join(map(str, told)) + ")"


def place(told):
    """The line of a place."""
    rows = [(n // gcd(n, told[-1]), told[-1] // gcd(n, told[-1])) for n in told[:-1]]
    return "(" + ", ".join(map(quotient, rows)) + ")"


def block(name):
    """The word of the name of a block."""
    return f"r{name[0]}" + ("." + name[1] if name[1] else "")


def thing(told):
    """The line of a thing."""
    return told if told == "bar" else point(told)


class Copy:
    """A desk, kept by the words of [104]: the wishes that stood behind each line kept."""

    def __init__(self, text):
        self.plan = read_plan(text)
        self.frame = frame_of(self.plan)
        self.solid, self.space = self.frame[0], self.frame[0][0]
        self.past = [self.plan[8]]
        self.lines = []

    def musts(self, tests):
        return Musts(self.frame, all_of(tuple(tests)))

    def change(self, told, line):
        """The answer to wish, change, drop or undo."""
        word, standing = told[0], self.past[-1]
        names = [name for name, _ in standing]
        if word == "undo":
            if not self.lines:
                return "no: NoDeed\n"
            self.past.pop()
            self.lines.pop()
        elif word == "wish" and told[1] in names:
            return "no: NotUsable\n"
        elif word != "wish" and told[1] not in names:
            return "no: NotStanding\n"
        else:
            later = {"wish": standing + (told[1:],), "drop": tuple(pair for pair in standing if pair[0] != told[1]),
                     "change": tuple((name, told[-1] if name == told[1] else test) for name, test in standing)}[word]
            if forced_chain(self.musts([test for _, test in later]), "bar") is not None:
                return "no: Refused\n"
            self.past.append(later)
            self.lines.append(line)
        return f"yes: {len(self.mesh())}\n"

    def tests(self):
        return [test for _, test in self.past[-1]]

    def mesh(self):
        return Mesh(self.solid, least_of(self.musts(self.tests())))

    def chain(self, musts, goal):
        """The lines of the chain that forces a thing, or None."""
        told = forced_chain(musts, goal)
        if told is None:
            return None
        lines = []
        for k, one in enumerate(told):
            why = musts.why(told[k - 1], one) if k else musts.why_source(one)
            lines.append(f"{thing(one)}: {why[0]}" + (f" {block(why[1])}" if len(why) > 1 else ""))
        return lines

    def answer(self, line):
        told = read_line(self.plan, line)
        if told[0] in ("wish", "change", "drop", "undo"):
            return self.change(told, line)
        if told[0] == "save":
            return "".join(one + "\n" for one in self.lines)
        if told[0] == "form":
            return form_of(self.mesh())
        try:
            return "".join(one + "\n" for one in self.query(*told))
        except NotUsable:
            return "no: NotUsable\n"

    def query(self, word, *told):
        """The lines of the answer to a question."""
        names, musts, fields = [name for name, _ in self.past[-1]], self.musts(self.tests()), self.frame[3]
        if word == "mesh":
            return [" ".join(map(str, by_generation(self.mesh())))]
        if word == "blocks":
            return [" ".join([block(name)] + list(map(point, body))) for name, body in zip(self.mesh().block_names(), self.mesh().blocks())]
        if word == "corner":
            return [" ".join(map(block, round_point(self.mesh(), told[0])))]
        if word == "why":
            lines = self.chain(musts, told[0])
            return [standing_of(musts, told[0])] if lines is None else lines
        if word == "chain":
            tests = [told[1] if name == told[0] else test for name, test in self.past[-1]] + ([] if told[0] in names else [told[1]])
            return self.chain(self.musts(tests), "bar") or []
        if word == "blame":
            return [" ".join(names[k] for k in row) for row in blame_of(self.frame, tuple(self.tests()), told[0])]
        if word == "implies":
            if not set(told) <= set(names):
                return ["no: NotStanding"]
            one, other = [Musts(self.frame, dict(self.past[-1])[name]) for name in told]
            lot = parted_by(one, other)
            return ["yes"] if lot is None else ["parted", " ".join(map(point, lot))]
        if word in ("best", "stairs"):
            worths = block_worths(self.frame, dict(self.plan[7])[told[0]])
            if word == "stairs":
                return [f"{quotient(first)} {'on' if last is None else quotient(last)} {many_of(self.solid, lot)}"
                        for first, last, lot in stairs_of(musts, worths)]
            least, greatest, found, _ = best_of(musts, worths, (told[1], 1))
            return [quotient(found), " ".join(map(point, least)), " ".join(map(point, greatest))]
        if word == "total":
            return [quotient(total_of(self.mesh(), fields, told[0]))]
        if word == "skin":
            rows = skin_of(self.mesh(), fields, *told)
            return [" ".join([block(name)] + [place(crossing_of(self.space, fields, *told, *pair)) for pair in row]) for name, row in rows]
        rows = walk_of(self.mesh(), told[0] + (1,), told[1] + (1,))
        return [f"{quotient(first)} {quotient(last)} " + ("outside" if corners is None else " ".join(map(point, corners))) for first, last, corners in rows]


def draw_bad(rolls, copy, most=3):
    """A bad with names of a few blocks near the roots."""
    deep = copy.frame[1]
    names = tuple((rolls.randrange(len(copy.solid[1])), "".join(rolls.choice("01") for _ in range(rolls.randrange(deep + 1)))) for _ in range(rolls.randrange(1, most)))
    rows = [(number, path[:k]) for number, path in names for k in range(len(path) + 1)]
    return "bad", tuple(rows) if rolls.randrange(2) else names


def draw_desk_test(rolls, copy):
    """A test for a desk."""
    kind = rolls.randrange(6)
    spot = tuple(rolls.randrange(0, 2 ** copy.space[1] * 2 + 1) for _ in range(copy.space[0]))
    if kind == 0:
        return "not", ("has", spot)
    if kind == 1:
        return "compare", rolls.choice((">", "<", ">=")), ("sum", ((1, ("generation",)),)), ("sum", ((rolls.randrange(4), ("one",)),))
    if kind == 2 and copy.frame[3]:
        return "compare", "<=", ("sum", ((1, ("error", copy.frame[3][0][0])),)), ("sum", ((rolls.randrange(5), ("one",)),))
    return draw_bad(rolls, copy)


def draw_desk_line(rolls, copy):
    """A line for a desk."""
    names = [name for name, _ in copy.past[-1]] + ["a", "c", "drop", "mesh"]
    word = rolls.choice(("wish", "wish", "wish", "change", "chain", "drop", "implies", "corner", "why", "blame", "walk", "total", "skin", "best", "stairs",
                         "mesh", "blocks", "form", "save", "undo"))
    spots = [tuple(rolls.randrange(0, 2 ** copy.space[1] + 1) for _ in range(copy.space[0])) for _ in range(2)]
    if word in ("corner", "why", "blame") and rolls.randrange(4):
        spots[0] = rolls.choice(copy.musts(()).all_points() + copy.mesh().corners())
    if word in ("wish", "change", "chain"):
        if word == "wish" and len(copy.past[-1]) > 4:
            return "undo"
        return f"{word} {rolls.choice(names)} : {line_of_test(draw_desk_test(rolls, copy))}"
    if word in ("drop", "implies"):
        return " ".join([word] + [rolls.choice(names) for _ in range(1 + (word == "implies"))])
    if word in ("corner", "why", "blame"):
        return f"{word} {point(spots[0])}"
    if word == "walk":
        return f"walk {point(spots[0])}{point(spots[1])}"
    if word in ("total", "skin", "best", "stairs"):
        row = copy.plan[6] if word in ("total", "skin") else copy.plan[7]
        if not row:
            return "mesh"
        return f"{word} {rolls.choice(row)[0]}" + {"skin": f" {rolls.randrange(-2, 18)}", "best": f" {rolls.randrange(6)}"}.get(word, "")
    return word


PLANS = (PLAN, SPACE, BASE, BASE.replace("cubes 1", "cubes 2").replace("solid all", "solid upto x - y <= 0") + "worth w = size - 2 * generation\n",
         SPACE.replace("cubes 1", "cubes 2").replace("deep 3", "deep 2") + "wish q : not bad (r0) or bad (r0)\n",
         BASE.replace("deep 2", "deep 4") + "field f = abs(x - y)\nworth w = high x - 3 * low y\n", BASE.replace("deep 2", "deep 0") + "field f = y\nworth w = 1\n")


class DeskTest(unittest.TestCase):

    def test_examples(self):
        desk = Desk("space 2\nrounds 2\ncubes 1\ndeep 2\nsolid all\nworth w = 4 - size\n")
        self.assertEqual((desk.ask("stairs w"), desk.ask("wish a : bad (r1)"), desk.ask("drop b")), ("0 8/3 8\n8/3 on 2\n", "yes: 4\n", "no: NotStanding\n"))
        self.assertEqual((desk.ask("why (2, 0)"), desk.ask("chain b : generation > 2")),
                         ("free\n", "(2, 2): root r0\n(0, 2): bad r0.0\nbar: bad r0.00\n"))

    def test_each_kind(self):
        desk = Desk(PLAN)
        for line, answer in (
                ("save", ""), ("mesh", "0 3 2\n"), ("form", "mesh 2 2\n0,0/0 100\n0,0/1 11000\n"),
                ("blocks", "r0.0 (0, 0) (0, 4) (2, 2)\nr0.1 (0, 4) (4, 4) (2, 2)\nr1.00 (0, 0) (2, 0) (2, 2)\nr1.01 (4, 0) (2, 0) (2, 2)\n"
                           "r1.1 (4, 0) (4, 4) (2, 2)\n"),
                ("corner (2, 0)", "r1.00 r1.01\n"), ("corner (1, 1)", "no: NotUsable\n"), ("why (2, 2)", "(2, 2): root r1\n"),
                ("why (2, 0)", "(2, 2): root r1\n(2, 0): bad r1.0\n"), ("why (4, 2)", "free\n"), ("why (1, 1)", "no: NotUsable\n"),
                ("why (0, 0)", "no: NotUsable\n"), ("blame (2, 0)", "a b\n"), ("blame (2, 2)", "a\n"), ("blame (4, 2)", ""), ("blame (1, 1)", "no: NotUsable\n"),
                ("chain b : bad ()", ""), ("chain n : bad (r1.00)", "(2, 2): root r1\n(2, 0): bad r1.0\nbar: bad r1.00\n"),
                ("chain b : bad (r1.0, r1.01)", "(2, 2): root r1\n(2, 0): bad r1.0\nbar: bad r1.01\n"), ("chain a : bad (r1.00)", ""),
                ("implies a a", "yes\n"), ("implies a b", "parted\n(2, 2)\n"), ("implies b a", "parted\n\n"), ("implies a n", "no: NotStanding\n"),
                ("implies n a", "no: NotStanding\n"), ("total f", "608/3\n"), ("skin f 8", "r0.1 (2, 4) (8/3, 8/3)\nr1.01 (8/3, 4/3) (8/3, 0)\nr1.1 (8/3, 4/3) (8/3, 8/3)\n"),
                ("skin f 99", ""), ("walk (-2, 1) (2, 1)", "0 1/2 outside\n1/2 1/2 (0, 0) (0, 4)\n1/2 3/4 (0, 0) (0, 4) (2, 2)\n3/4 3/4 (0, 0) (2, 2)\n"
                                    "3/4 1 (0, 0) (2, 0) (2, 2)\n1 1 (2, 0) (2, 2)\n"), ("walk (2, 2)(2, 2)", "0 0 (2, 2)\n"),
                ("stairs w", "0 4 8\n4 on 5\n"), ("best w 2", "4\n(2, 2) (0, 2) (2, 0) (2, 4) (4, 2)\n(2, 2) (0, 2) (2, 0) (2, 4) (4, 2)\n"),
                ("wish a : bad ()", "no: NotUsable\n"), ("wish c : bad (r1.00)", "no: Refused\n"), ("change a : bad (r1, r1.00)", "no: Refused\n"),
                ("change n : bad ()", "no: NotStanding\n"), ("drop n", "no: NotStanding\n"), ("undo", "no: NoDeed\n"), ("save", "")):
            with self.subTest(line=line):
                self.assertEqual(desk.ask(line), answer)
                self.assertEqual(Copy(PLAN).answer(line), answer)

    def test_why_in_all_words(self):
        desk = Desk(BASE.replace("cubes 1", "cubes 2").replace("solid all", "solid box (0, 0) (8, 4)") + "wish a : bad (r1, r1.1)\n")
        self.assertEqual(desk.ask("why (6, 2)"), "(2, 2): root r1\n(4, 2): bad r1.1\n(6, 2): need\n")
        self.assertEqual(desk.ask("chain a : bad (r1, r1.1, r2.0, r2.00)"),
                         "(2, 2): root r1\n(4, 2): bad r1.1\n(6, 2): need\n(6, 0): bad r2.0\nbar: bad r2.00\n")
        self.assertEqual(desk.ask("why (6, 0)"), "free\n")

    def test_changes_and_undo(self):
        desk = Desk(PLAN)
        for line, answer in (("drop a", "yes: 2\n"), ("wish  c:bad (r0)", "yes: 5\n"), ("wish c : bad ()", "no: NotUsable\n"), ("change c : bad ()", "yes: 2\n")):
            self.assertEqual(desk.ask(line), answer)
        self.assertEqual(desk.ask("save"), "drop a\nwish  c:bad (r0)\nchange c : bad ()\n")
        told = []
        for _ in range(5):
            told.append((desk.ask("undo"), desk.ask("save"), desk.ask("mesh")))
        self.assertEqual(told, [("yes: 5\n", "drop a\nwish  c:bad (r0)\n", "0 3 2\n"), ("yes: 2\n", "drop a\n", "2\n"), ("yes: 5\n", "", "0 3 2\n"),
                                ("no: NoDeed\n", "", "0 3 2\n"), ("no: NoDeed\n", "", "0 3 2\n")])
        self.assertEqual(desk.ask("blame (2, 0)"), "a b\n")

    def test_drawn_sessions(self):
        rolls = random.Random(1041)
        words = {}
        for k in range(42):
            text = PLANS[k % len(PLANS)]
            desk, copy = Desk(text), Copy(text)
            for _ in range(14):
                line = draw_desk_line(rolls, copy)
                answer = desk.ask(line)
                self.assertEqual(answer, copy.answer(line), line)
                words.setdefault(line.split()[0], set()).add(answer.split(" ")[0])
            self.check_again(rolls, text, desk, copy)
        self.assertEqual(len(words), 18)
        for word in ("wish", "change", "drop", "undo"):
            self.assertEqual(words[word], {"yes:", "no:"})

    def check_again(self, rolls, text, desk, copy):
        """A desk made from what was saved answers in the same way; so do both behind another line and an undo."""
        again = desk_of(text, read_journal(desk.ask("save")))
        lines = [draw_desk_line(rolls, copy) for _ in range(6)]
        lines = [line for line in lines if line.split()[0] not in ("wish", "change", "drop", "undo")] + ["form", "save", "mesh"]
        before = [desk.ask(line) for line in lines]
        self.assertEqual([again.ask(line) for line in lines], before)
        if again.ask("wish other : bad (r0)").startswith("yes"):
            self.assertTrue(again.ask("undo").startswith("yes"))
        self.assertEqual([again.ask(line) for line in lines], before)
        self.assertEqual([desk.ask(line) for line in lines], before)
        # Back to the beginning, and one step more.
        for _ in list(copy.lines):
            self.assertEqual(desk.ask("undo"), copy.answer("undo"))
        self.assertEqual((desk.ask("undo"), desk.ask("save")), ("no: NoDeed\n", ""))

    def test_lines_that_cannot_be_read(self):
        desk = Desk(PLAN)
        desk.ask("drop a")
        rolls = random.Random(1042)
        copy = Copy(PLAN)
        for _ in range(150):
            line = spoilt(rolls, draw_desk_line(rolls, copy), WORDS)
            at = wrong_at(copy.plan, line)
            if at is not None:
                with self.assertRaises(InvalidText) as caught:
                    desk.ask(line)
                self.assertEqual((caught.exception.line, caught.exception.at), (0, at))
                self.assertEqual((desk.ask("save"), desk.ask("mesh")), ("drop a\n", "2\n"))
        for line in WRONG_TEXTS + ("save\n", "\n"):
            with self.assertRaises(NotUsable) as caught:
                desk.ask(line)
            self.assertEqual((caught.exception.word, caught.exception.at), ("line", -1))

    def test_plans(self):
        self.assertEqual(Desk(BASE).ask("mesh"), "2\n")
        self.assertEqual(Desk(BASE + "wish a : bad (r1)\n").ask("mesh"), "0 4\n")
        self.assertEqual(Desk(PLAN).ask("mesh"), "0 3 2\n")
        self.assertEqual(Desk("\n  \n" + BASE[:-1]).ask("mesh"), "2\n")
        with self.assertRaises(Refused) as caught:
            Desk(PLAN + "wish c : bad (r1.01)\n")
        self.assertEqual(caught.exception.chain, ((2, 2), (2, 0), "bar"))
        # The first wish that is refused tells its chain, not all of them together.
        with self.assertRaises(Refused) as caught:
            Desk(BASE + "wish a : bad (r1, r1.0, r1.00)\nwish b : bad (r0, r0.0, r0.00)\n")
        self.assertEqual(caught.exception.chain, ((2, 2), (2, 0), "bar"))
        with self.assertRaises(InvalidText) as caught:
            Desk(PLAN + "wish a : bad ()\n")
        self.assertEqual((caught.exception.line, caught.exception.at), (10, 5))
        with self.assertRaises(InvalidText) as caught:
            Desk("")
        self.assertEqual((caught.exception.line, caught.exception.at), (1, 0))
        with self.assertRaises(CutRoot) as caught:
            Desk(BASE.replace("all", "upto x <= 2"))
        self.assertEqual(caught.exception.root, ((0, 0), (0, 4), (4, 4)))
        self.assertRaises(EmptySolid, Desk, BASE.replace("all", "upto x <= 0"))

    def test_desk_of(self):
        journal = Journal()
        for line in ("wish c : bad (r0)", "mesh", "no line", "drop b"):
            journal.tell(line)
        with self.assertRaises(InvalidText) as caught:
            desk_of(PLAN, journal)
        self.assertEqual((caught.exception.line, caught.exception.at), (2, 0))
        journal = read_journal("drop a\nsave\ndrop a\nwish c : bad (r0)\nundo\n  change b:bad (r0)\n")
        desk = desk_of(PLAN, journal)
        self.assertEqual((desk.ask("save"), desk.ask("mesh"), desk.ask("blame (2, 2)")), ("drop a\n  change b:bad (r0)\n", "0 4\n", "b\n"))
        self.assertEqual(len(journal.lines()), 6)
        self.assertEqual(desk_of(PLAN, Journal()).ask("save"), "")
        with self.assertRaises(InvalidText) as caught:
            desk_of(BASE, read_journal("mesh\nsave\ndrop a b\n"))
        self.assertEqual((caught.exception.line, caught.exception.at), (2, 7))
        # Errors of the plan come first.
        with self.assertRaises(InvalidText) as caught:
            desk_of("space 4", read_journal("mesh\n;\n"))
        self.assertEqual((caught.exception.line, caught.exception.at), (0, 6))

    def test_objects_share_nothing(self):
        journal = read_journal("wish c : bad (r0)\n")
        one, other = desk_of(PLAN, journal), desk_of(PLAN, journal)
        one.ask("drop c")
        self.assertEqual((other.ask("save"), one.ask("save")), ("wish c : bad (r0)\n", "wish c : bad (r0)\ndrop c\n"))
        journal.tell("drop a")
        self.assertEqual(other.ask("save"), "wish c : bad (r0)\n")

    def test_twelve_roots(self):
        desk = Desk(BASE.replace("cubes 1", "cubes 3").replace("solid all", "solid upto y <= 8"))
        self.assertEqual(len(desk.ask("blocks").split("\n")), 13)
        self.assertEqual([line.split(" ")[0] for line in desk.ask("blocks").split("\n")[:-1]], [f"r{k}" for k in range(12)])
        self.assertEqual(desk.ask("corner (8, 4)"), Copy(BASE.replace("cubes 1", "cubes 3").replace("solid all", "solid upto y <= 8")).answer("corner (8, 4)"))

    def test_regions(self):
        text = BASE.replace("solid", "region r = box (1, 1) (3, 4)\nsolid") + "wish a : not cut r or generation > 1\n"
        desk = Desk(text)
        self.assertEqual(desk.ask("mesh"), Copy(text).answer("mesh"))
        self.assertEqual(desk.ask("wish b : in r or out r or generation > 1"), Copy(text).answer("wish b : in r or out r or generation > 1"))

    def test_parameters(self):
        def told(plan, journal):
            return desk_of(plan, journal).ask("save")
        journals = (None, True, 0, "", "mesh\n", (), ("mesh",), ["mesh"])
        check_parameters(self, told, [("plan", PLAN), ("journal", read_journal("drop a\n"))], {"plan": WRONG_TEXTS, "journal": journals})
        check_parameters(self, lambda plan: Desk(plan).ask("mesh"), [("plan", PLAN)], {"plan": WRONG_TEXTS})
        self.assertEqual(Desk(plan=PLAN).ask(line="save"), "")
        # A journal that is none is told ahead of a plan that cannot be read.
        with self.assertRaises(NotUsable):
            desk_of("space 4", None)


if __name__ == "__main__":
    unittest.main()
