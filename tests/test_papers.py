"""Papers and refusals, and what checks them, [61]; [63] and (G5) of [11]."""

import unittest

from musttools import (BAR, FLAT, FRAME, HIGH_POINTS, REFUSING, TEST, WRONG_TESTS, Known, draw_frame, draw_known, draw_test, good_oracle,
                       names_within)
from test_mustclasses import oracle_why, oracle_why_source
from tools import ODDS, SQUARE, check_parameters, deep
from wholefaces.errors import InvalidPaper, NotUsable, Refused
from wholefaces.extremes import least_of
from wholefaces.mustclasses import Musts
from wholefaces.papers import lets_paper, lets_refusal, paper_of, refusal_of
from worlds import OFF_NAMES, OFF_POINTS, worlds

NO_POINTS = OFF_POINTS + HIGH_POINTS + (BAR,)


def shows(known, why, point, thing):
    """Whether a why shows a thing, as a source or from a point, by the words of [55]."""
    if not isinstance(why, tuple) or not why:
        return False
    middle = lambda name: BAR if len(name[1]) == known.deep else known.world.middle[name]
    if point is None:
        return any(why == ("root", name) and type(why[1][0]) is int and middle(name) == thing for name in known.bad if name[1] == "")
    if why == ("need",):
        return thing in known.world.needs[point]
    return any(why == ("bad", half) and type(why[1][0]) is int and middle(half) == thing for half in known.bad
               if half[1] and (half[0], half[1][:-1]) in known.world.ring[point])


def paper_fault(known, thing):
    """The first fault of a paper, or None."""
    if not isinstance(thing, tuple) or not all(isinstance(t, tuple) and len(t) == 3 for t in thing):
        return "shape", -1
    points = []
    for k, (point, why, before) in enumerate(thing):
        if not (isinstance(point, tuple) and all(type(n) is int for n in point) and point in known.musts):
            return "point", k
        if point in points:
            return "twice", k
        if type(before) is not int or not -1 <= before < k:
            return "before", k
        if not shows(known, why, None if before == -1 else points[before], point):
            return "why", k
        points.append(point)
    if not known.world.is_closed(points):
        return "open", -1
    lot = known.world.order(points)
    return ("bad", -1) if any(name in known.bad for name in known.world.leaves(lot)) else None


def refusal_fault(known, thing):
    """The first fault of a refusal, or None."""
    if not isinstance(thing, tuple) or not thing or not all(isinstance(t, tuple) and len(t) == 2 for t in thing):
        return "shape", -1
    for k, (one, why) in enumerate(thing):
        if k + 1 == len(thing):
            fits = one == BAR
        else:
            fits = isinstance(one, tuple) and all(type(n) is int for n in one) and one in known.musts
        if not fits:
            return "thing", k
        if not shows(known, why, thing[k - 1][0] if k else None, one):
            return "why", k
    return None


class PapersTest(unittest.TestCase):

    def judge(self, check, fault_of, frame, test, known, thing, right):
        """Checks what a checker tells of a thing."""
        fault = fault_of(known, thing)
        if fault is None:
            self.assertEqual(check(frame, test, thing), right(thing))
        else:
            with self.assertRaises(InvalidPaper) as caught:
                check(frame, test, thing)
            self.assertEqual((caught.exception.word, caught.exception.at), fault, thing)
        return fault

    def test_example(self):
        musts = Musts(FLAT, TEST)
        self.assertEqual(paper_of(musts), (((2, 2), ("root", (1, "")), -1), ((2, 0), ("bad", (1, "0")), 0)))
        self.assertEqual(lets_paper(FLAT, TEST, paper_of(musts)), ((2, 2), (2, 0)))
        self.assertIsNone(refusal_of(musts))
        refusal = refusal_of(Musts(FLAT, REFUSING))
        self.assertEqual(refusal, (((2, 2), ("root", (1, ""))), ((2, 0), ("bad", (1, "0"))), (BAR, ("bad", (1, "00")))))
        self.assertEqual(lets_refusal(FLAT, REFUSING, refusal), 3)

    def check_drawn(self, rolls, frame, test, known):
        musts = Musts(frame, test)
        if known.refuses():
            chain = known.chain(known.sources, BAR)
            refusal = [(chain[0], oracle_why_source(known, chain[0]))]
            refusal += [(thing, oracle_why(known, one, thing)) for one, thing in zip(chain, chain[1:])]
            self.assertEqual(refusal_of(musts), tuple(refusal))
            self.assertEqual(lets_refusal(frame, test, tuple(refusal)), len(chain))
            with self.assertRaises(Refused) as caught:
                paper_of(musts)
            self.assertEqual(caught.exception.chain, chain)
            return tuple(refusal), None
        expected, places = [], {}
        for row in known.rounds(known.sources):
            for point, before in row:
                why = oracle_why_source(known, point) if before is None else oracle_why(known, before, point)
                places[point] = len(expected)
                expected.append((point, why, -1 if before is None else places[before]))
        self.assertEqual(paper_of(musts), tuple(expected))
        self.assertEqual(lets_paper(frame, test, tuple(expected)), least_of(musts))
        self.assertIsNone(refusal_of(musts))
        return None, tuple(expected)

    def test_drawn_papers(self):
        rolls, made = worlds(611, 70)
        words = set()
        for world in made:
            frame, test, known = draw_known(rolls, world, 200)
            refusal, paper = self.check_drawn(rolls, frame, test, known)
            for _ in range(25):
                if paper is not None:
                    thing = self.spoilt(rolls, known, paper)
                    words.add(self.judge(lets_paper, paper_fault, frame, test, known, thing, lambda t: world.order(p for p, _, _ in t)))
                else:
                    thing = self.spoilt(rolls, known, refusal)
                    words.add(self.judge(lets_refusal, refusal_fault, frame, test, known, thing, len))
        told = {word for word, _ in words - {None}}
        self.assertLessEqual({"shape", "point", "twice", "before", "why", "bad", "thing"}, told)

    def spoilt(self, rolls, known, paper):
        """The paper with something changed."""
        rows = [list(row) for row in paper]
        kind = rolls.randrange(9)
        k = rolls.randrange(len(rows) + 1)
        if kind == 0 or not rows:
            rows = rows[:k]
        elif kind == 1:
            rows.insert(k, list(rolls.choice(rows)))
        elif kind == 2:
            rows = rows[:k] + rows[k + 1:]
        elif kind == 3:
            i, j = rolls.randrange(len(rows)), rolls.randrange(len(rows))
            rows[i], rows[j] = rows[j], rows[i]
        elif kind < 8:
            at = rolls.randrange(len(rows[0]))
            row = rolls.choice(rows)
            other = rolls.choice(rows)[at] if rolls.randrange(2) else self.odd_part(rolls, known, at)
            row[at] = other
        else:
            rows[k - 1] = rows[k - 1] + [None] if rolls.randrange(2) else rows[k - 1][:-1]
        thing = tuple(tuple(row) for row in rows)
        return thing if rolls.randrange(30) else list(thing)

    def odd_part(self, rolls, known, at):
        """Something for a place in a triple or a pair."""
        names = [name for name in known.world.names if len(name[1]) <= known.deep]
        name = rolls.choice(names)
        if at == 0:
            return rolls.choice(list(known.points)[-5:] + [BAR, None, (1, True), [2, 2], known.world.roots[0][0]])
        if at == 1:
            return rolls.choice([("need",), ("root", name), ("bad", name), ("bad", (True, name[1])), ["need"], None, ("need", 1), ("bad",), ("root", [0, ""])])
        return rolls.choice([-1, 0, 1, 2, 3, -2, None, True, False, "0", 10 ** 50])

    def test_drawn_tests(self):
        rolls, made = worlds(612, 40, 2, 1, 2)
        for world in made:
            frame = draw_frame(rolls, world, 60)
            test = draw_test(rolls, world, frame)
            bad = [name for name in names_within(world, frame[1]) if not good_oracle(world, frame, test, name)]
            self.check_drawn(rolls, frame, test, Known(world, frame[1], bad))

    def refuse(self, check, frame, test, thing, word, at):
        with self.assertRaises(InvalidPaper) as caught:
            check(frame, test, thing)
        self.assertEqual((caught.exception.word, caught.exception.at), (word, at), thing)

    def test_faults_of_papers(self):
        one, two = paper_of(Musts(FLAT, TEST))
        for thing in [odd for odd in ODDS if odd != ()] + [one, (one, None), (one, two[:2]), (one, two + (0,)), [one, two], (list(one), two), deep(one, 8)]:
            self.refuse(lets_paper, FLAT, TEST, thing, "shape", -1)
        for point in NO_POINTS:
            self.refuse(lets_paper, FLAT, TEST, ((point,) + one[1:], two), "point", 0)
            self.refuse(lets_paper, FLAT, TEST, (one, (point, None, None)), "point", 1)
        self.refuse(lets_paper, FLAT, TEST, (one, one), "twice", 1)
        self.refuse(lets_paper, FLAT, TEST, (one, two, (two[0], None, None)), "twice", 2)
        for before in (1, 2, -2, True, False, None, "0", (0,), 10 ** 50):
            self.refuse(lets_paper, FLAT, TEST, (one, (two[0], None, before)), "before", 1)
        for before in (0, 1, None):
            self.refuse(lets_paper, FLAT, TEST, ((one[0], one[1], before), two), "before", 0)
        whys = (None, True, "need", (), ["need"], ("need",), ("need", 1), ("root", (0, "")), ("root", (1, "0")), ("bad", (1, "")), ("root", (True, "")),
                ("root", [1, ""]), ["root", (1, "")], ("root",), ("root", (1, ""), 1), ("Root", (1, "")), ("root", (5, "")), ("root", None))
        for why in whys:
            self.refuse(lets_paper, FLAT, TEST, ((one[0], why, -1), two), "why", 0)
        whys = (None, ("need",), ("root", (1, "")), ("bad", (1, "")), ("bad", (1, "1")), ("bad", (0, "0")), ("bad", (True, "0")), ("bad", [1, "0"]),
                ["bad", (1, "0")], ("bad", (1, "0"), 1), ("bad", (1, "00")), ("bad", (1, "0" * 20)), ("bad", (-1, "0")), ("bad", (1, ("0",))))
        for why in whys + tuple(("bad", name) for name in OFF_NAMES):
            self.refuse(lets_paper, FLAT, TEST, (one, (two[0], why, 0)), "why", 1)
        self.refuse(lets_paper, FLAT, TEST, (one, (two[0], ("bad", (1, "0")), -1)), "why", 1)
        # The name of a bad block that is no root, though with this middle.
        self.refuse(lets_paper, FLAT, TEST, ((two[0], ("root", (1, "0")), -1),), "why", 0)
        self.refuse(lets_paper, FLAT, TEST, (one,), "bad", -1)
        self.refuse(lets_paper, FLAT, TEST, (), "bad", -1)

    def test_open_papers(self):
        test = ("bad", ((0, ""), (0, "0"), (0, "00"), (0, "000")))
        paper = paper_of(Musts(FRAME, test))
        row = tuple(triple for triple in paper if triple[0] in ((2, 2), (0, 2), (1, 1)))
        self.refuse(lets_paper, FRAME, test, row, "open", -1)
        whys = {point: why for point, why, _ in paper}
        self.assertEqual(whys[(2, 0)], ("need",))
        for why in (("need",), ("bad", (0, "0"))):
            self.refuse(lets_paper, FRAME, test, (paper[0], ((1, 1), why, 0)), "why", 1)
        self.assertEqual(lets_paper(FRAME, ("bad", ()), ()), ())

    def test_faults_of_refusals(self):
        one, two, end = refusal_of(Musts(FLAT, REFUSING))
        for thing in ODDS + (end, (one, two, None), (one, two, end + (1,)), [one, two, end], ([1, 2], two), deep(end, 8), "bar"):
            self.refuse(lets_refusal, FLAT, REFUSING, thing, "shape", -1)
        self.refuse(lets_refusal, FLAT, REFUSING, (one,), "thing", 0)
        self.refuse(lets_refusal, FLAT, REFUSING, (one, two), "thing", 1)
        self.refuse(lets_refusal, FLAT, REFUSING, (one, end, end), "thing", 1)
        self.refuse(lets_refusal, FLAT, REFUSING, (one, two, ("bar ", end[1])), "thing", 2)
        self.refuse(lets_refusal, FLAT, REFUSING, (end,), "why", 0)
        for point in NO_POINTS:
            self.refuse(lets_refusal, FLAT, REFUSING, (one, (point, None), end), "thing", 1)
        for why in (None, ("need",), ("bad", (1, "")), ("root", (0, "")), ("root", (True, "")), ["root", (1, "")], ("root", (1, "0"))):
            self.refuse(lets_refusal, FLAT, REFUSING, ((one[0], why), two, end), "why", 0)
        for why in (None, ("need",), ("bad", (1, "1")), ("bad", (True, "0")), ("root", (1, "")), ("bad", (1, "00")), ("bad", [1, "0"])):
            self.refuse(lets_refusal, FLAT, REFUSING, (one, (two[0], why), end), "why", 1)
        for why in (None, ("need",), ("bad", (1, "0")), ("bad", (1, "01")), ("bad", (True, "00")), ("root", (1, ""))):
            self.refuse(lets_refusal, FLAT, REFUSING, (one, two, (BAR, why)), "why", 2)
        self.refuse(lets_refusal, FLAT, REFUSING, (one, end), "why", 1)
        self.refuse(lets_refusal, FLAT, REFUSING, ((BAR, ("root", (1, "00"))),), "why", 0)
        # A root is no half.
        self.refuse(lets_refusal, FLAT, REFUSING, (one, (one[0], ("bad", (1, ""))), two, end), "why", 1)
        self.assertEqual(lets_refusal(FLAT, REFUSING, (one, two, (one[0], ("need",)), two, end)), 5)

    def test_deep_nought(self):
        frame = (SQUARE, 0, (), ())
        self.assertEqual((paper_of(Musts(frame, ("bad", ()))), lets_paper(frame, ("bad", ()), ())), ((), ()))
        self.refuse(lets_paper, frame, TEST, (), "bad", -1)
        refusal = refusal_of(Musts(frame, ("bad", ((0, ""), (1, "")))))
        self.assertEqual(refusal, ((BAR, ("root", (0, ""))),))
        self.assertEqual(lets_refusal(frame, ("bad", ((0, ""), (1, ""))), ((BAR, ("root", (1, ""))),)), 1)
        self.refuse(lets_refusal, frame, TEST, refusal, "why", 0)

    def test_parameters(self):
        paper = paper_of(Musts(FLAT, TEST))
        check_parameters(self, lets_paper, [("frame", FLAT), ("test", TEST), ("thing", paper)], {"test": WRONG_TESTS})
        refusal = refusal_of(Musts(FLAT, REFUSING))
        check_parameters(self, lets_refusal, [("frame", FLAT), ("test", REFUSING), ("thing", refusal)], {"test": WRONG_TESTS})
        for check in (lets_paper, lets_refusal):
            self.assertRaises(NotUsable, check, FLAT, ("in", "a"), None)
        self.assertEqual(paper_of(musts=Musts(FLAT, TEST)), paper)
        self.assertEqual(refusal_of(musts=Musts(FLAT, REFUSING)), refusal)


if __name__ == "__main__":
    unittest.main()
