"""Wishes that come, change and go, [66]; (G6) of [11]."""

import unittest

from musttools import (BAR, FLAT, FRAME, FRAME_PARAMETERS, HIGH_POINTS, REFUSING, TEST, WRONG_TESTS, Known, draw_frame, draw_names, draw_test,
                       good_oracle, names_within)
from test_settling import oracle_kept, oracle_settled
from tools import SQUARE, check_parameters
from wholefaces.errors import NotStanding, NotUsable, Refused
from wholefaces.meshclasses import Mesh
from wholefaces.wishclasses import Wishes
from worlds import OFF_POINTS, worlds

NO_NAMES = (None, True, 0, "", "B", "x", "bad", "a b", "abcdefghijklm", ("b",), ["b"], "1a", "a.b", [], {})


def told(wishes):
    """Everything that the wishes tell."""
    return (wishes.names(), [wishes.test_of(name) for name in wishes.names()], wishes.lot(), wishes.mesh(), wishes.reasons(), wishes.last(),
            [wishes.why(point) for point in wishes.lot()])


class WishesTest(unittest.TestCase):

    def test_example(self):
        wishes = Wishes(FRAME)
        self.assertEqual(told(wishes), ((), [], (), Mesh(SQUARE, ()), (), (0, 0), []))
        self.assertEqual((wishes.wish("a", TEST), wishes.last()), (None, (0, 2)))
        self.assertEqual((wishes.lot(), wishes.reasons()), (((2, 2), (2, 0)), (((2, 2), None), ((2, 0), (2, 2)))))
        self.assertEqual(wishes.why((2, 0)), ((2, 2), (2, 0)))
        self.assertEqual((wishes.wish("b", ("bad", ((1, "0"),))), wishes.drop("a"), wishes.lot(), wishes.last()), (None, None, (), (2, 0)))
        self.assertEqual(wishes.names(), ("b",))

    def check_history(self, rolls, world, frame, draw, bad_of):
        """A history of wishes, checked behind each step."""
        wishes, standing, reasons, last = Wishes(frame), [], (), (0, 0)
        for _ in range(10):
            kind, name, test = rolls.randrange(5), rolls.choice("abcdef"), draw()
            names = [one for one, _ in standing]
            before = told(wishes)
            if kind < 3:
                call, later = (lambda: wishes.wish(name, test)), standing + [(name, test)]
                error = NotUsable if name in names else None
            elif kind == 3:
                call, later = (lambda: wishes.change(name, test)), [(one, test if one == name else other) for one, other in standing]
                error = None if name in names else NotStanding
            else:
                call, later = (lambda: wishes.drop(name)), [(one, other) for one, other in standing if one != name]
                error = None if name in names else NotStanding
            if error is not None:
                self.assertRaises(error, call)
                self.assertEqual(told(wishes), before)
                continue
            known = Known(world, frame[1], {bad for _, one in later for bad in bad_of(one)})
            if known.refuses():
                self.assertNotEqual(kind, 4)
                with self.assertRaises(Refused) as caught:
                    call()
                self.assertEqual(caught.exception.chain, known.chain(known.sources, BAR))
                self.assertEqual(told(wishes), before)
                continue
            self.assertIsNone(call())
            kept, lost = oracle_kept(known, reasons), reasons
            reasons, standing = oracle_settled(known, reasons), later
            last = (len(lost) - len(kept), len(reasons) - len(kept))
            self.assertEqual(wishes.last(), last)
            self.assertEqual(wishes.reasons(), reasons)
            self.assertEqual(wishes.lot(), known.least())
            self.assertEqual(wishes.mesh(), Mesh(world.solid, known.least()))
            self.assertEqual(wishes.names(), tuple(one for one, _ in standing))
            for one, other in standing:
                self.assertEqual(wishes.test_of(one), other)
            for point in wishes.lot()[:20]:
                self.assertEqual(wishes.why(point), known.chain(known.sources, point))
        return wishes, standing

    def test_drawn_histories(self):
        rolls, made = worlds(641, 50)
        for world in made:
            frame = draw_frame(rolls, world, 100, named=False)
            draw = lambda: ("bad", draw_names(rolls, world, frame[1])[:rolls.randrange(1, 8)])
            wishes, standing = self.check_history(rolls, world, frame, draw, lambda test: test[1])
            # The same wishes in another sequence.
            rolls.shuffle(standing)
            mate = Wishes(frame)
            for name, test in standing:
                mate.wish(name, test)
            self.assertEqual((mate.lot(), mate.mesh()), (wishes.lot(), wishes.mesh()))

    def test_histories_of_drawn_tests(self):
        rolls, made = worlds(642, 14, 2, 1, 2)
        for world in made:
            frame = draw_frame(rolls, world, 40)
            bad_of = lambda test: [name for name in names_within(world, frame[1]) if not good_oracle(world, frame, test, name)]
            self.check_history(rolls, world, frame, lambda: draw_test(rolls, world, frame, 1), bad_of)

    def test_one_wish_more_takes_no_point_away(self):
        rolls, made = worlds(643, 30)
        for world in made:
            frame = draw_frame(rolls, world, 160, named=False)
            wishes = Wishes(frame)
            for name in "abcd":
                lot, names = set(wishes.lot()), wishes.names()
                try:
                    wishes.wish(name, ("bad", draw_names(rolls, world, frame[1])))
                except Refused:
                    self.assertEqual((set(wishes.lot()), wishes.names()), (lot, names))
                self.assertLessEqual(lot, set(wishes.lot()))
            for name in wishes.names():
                lot = set(wishes.lot())
                wishes.drop(name)
                self.assertLessEqual(set(wishes.lot()), lot)
            self.assertEqual((wishes.lot(), wishes.reasons(), wishes.names()), ((), (), ()))

    def test_a_changed_wish_keeps_its_place(self):
        wishes = Wishes(FLAT)
        for name in ("c", "a", "b"):
            wishes.wish(name, ("bad", ()))
        wishes.change("a", TEST)
        self.assertEqual((wishes.names(), wishes.test_of("a"), wishes.last()), (("c", "a", "b"), TEST, (0, 2)))
        wishes.drop("c")
        wishes.wish("c", ("bad", ()))
        self.assertEqual((wishes.names(), wishes.last()), (("a", "b", "c"), (0, 0)))

    def test_refused(self):
        wishes = Wishes(FLAT)
        wishes.wish("a", TEST)
        before = told(wishes)
        for call in (lambda: wishes.wish("b", ("bad", ((1, "00"),))), lambda: wishes.change("a", REFUSING)):
            with self.assertRaises(Refused) as caught:
                call()
            self.assertEqual(caught.exception.chain, ((2, 2), (2, 0), BAR))
            self.assertEqual(told(wishes), before)
        self.assertRaises(NotStanding, wishes.test_of, "b")
        wishes.change("a", ("bad", ((1, ""),)))
        wishes.wish("b", ("bad", ((1, "00"),)))
        self.assertEqual((wishes.lot(), wishes.last()), (((2, 2),), (0, 0)))
        nought = Wishes((SQUARE, 0, (), ()))
        with self.assertRaises(Refused) as caught:
            nought.wish("a", TEST)
        self.assertEqual((caught.exception.chain, nought.names()), ((BAR,), ()))

    def test_names_that_do_not_stand(self):
        wishes = Wishes(FLAT)
        wishes.wish("a", TEST)
        before = told(wishes)
        for name in NO_NAMES + ("b",):
            for call in (lambda: wishes.drop(name), lambda: wishes.test_of(name), lambda: wishes.change(name, TEST)):
                with self.assertRaises(NotStanding) as caught:
                    call()
                self.assertIs(caught.exception.name, name)
            for wrong in WRONG_TESTS:
                with self.assertRaises(NotUsable) as caught:
                    wishes.change(test=wrong, name=name)
                self.assertEqual((caught.exception.word, caught.exception.at), ("test", -1))
        self.assertEqual(told(wishes), before)

    def test_objects_share_nothing(self):
        one, other = Wishes(FLAT), Wishes(FLAT)
        one.wish("a", TEST)
        self.assertEqual((other.names(), other.lot(), other.last()), ((), (), (0, 0)))

    def test_parameters(self):
        def wishes_of(frame):
            return told(Wishes(frame))
        check_parameters(self, wishes_of, [("frame", FLAT)], {"frame": FRAME_PARAMETERS})

        def wished(name, test):
            wishes = Wishes(FLAT)
            wishes.wish("a", TEST)
            try:
                wishes.wish(test=test, name=name)
            finally:
                self.assertEqual(wishes.names()[:1], ("a",))
            return told(wishes)
        check_parameters(self, wished, [("name", "b2"), ("test", ("bad", ()))], {"name": NO_NAMES + ("a",), "test": WRONG_TESTS})
        wishes = Wishes(FLAT)
        wishes.wish(name="a", test=TEST)
        wrong = OFF_POINTS + HIGH_POINTS + ((0, 2), (2, 4), BAR, (True, 2))
        check_parameters(self, wishes.why, [("point", (2, 0))], {"point": wrong})
        small = Wishes((((2, 1), (((0, 0), (0, 2), (2, 2)),)), 2, (), ()))
        small.wish("a", ("bad", ((0, ""),)))
        check_parameters(self, small.why, [("point", (1, 1))], {"point": ((True, 1), (1, True))})
        self.assertEqual(wishes.test_of(name="a"), TEST)
        self.assertIsNone(wishes.change(test=("bad", ()), name="a"))
        self.assertIsNone(wishes.drop(name="a"))


if __name__ == "__main__":
    unittest.main()
