"""Work, job by job, [65] and [70]; (G6) of [11]."""

import unittest

from musttools import BAR, FLAT, REFUSING, TEST, draw_known
from tools import SQUARE, check_parameters
from wholefaces.errors import NoDeed
from wholefaces.mustclasses import Musts
from wholefaces.workclasses import Work
from worlds import worlds

WRONG_MUSTS = (None, True, 0, "", (), (FLAT, TEST), FLAT, TEST, [], Musts(FLAT, TEST).told(), Work(Musts(FLAT, TEST)))


class WorkTest(unittest.TestCase):

    def check(self, work, known, there):
        asked = set(known.sources) | {must for point in there for must in known.musts[point]}
        waiting = known.order(asked - set(there) - {BAR})
        self.assertEqual(work.waiting(), waiting)
        self.assertEqual(work.lot(), known.order(there))
        self.assertEqual(work.jobs(), len(there))
        self.assertIs(work.done(), len(waiting) == 0)
        self.assertIs(work.refuses(), BAR in asked)
        return waiting

    def test_drawn_sequences(self):
        rolls, made = worlds(631, 60)
        for world in made:
            frame, test, known = draw_known(rolls, world, 160)
            musts = Musts(frame, test)
            for choice in (lambda many: 0, lambda many: many - 1, rolls.randrange):
                work, there = Work(musts), []
                waiting = self.check(work, known, there)
                while waiting:
                    place = choice(len(waiting))
                    self.assertEqual(work.do(place), waiting[place])
                    there.append(waiting[place])
                    waiting = self.check(work, known, there)
                self.assertEqual(set(work.lot()), known.forced() - {BAR})
                self.assertEqual(work.jobs(), len(work.lot()))
                self.assertIs(work.refuses(), known.refuses())

    def test_no_deed(self):
        work = Work(Musts(FLAT, TEST))
        places = (1, 2, -1, True, False, None, "0", (0,), [0], 10 ** 59, (), "")
        for place in places:
            with self.assertRaises(NoDeed) as caught:
                work.do(place)
            self.assertIs(caught.exception.place, place)
            self.assertEqual((work.waiting(), work.jobs(), work.lot(), work.done()), (((2, 2),), 0, (), False))
        self.assertEqual(work.do(place=0), (2, 2))
        self.assertEqual(work.do(0), (2, 0))
        for place in places + (0,):
            self.assertRaises(NoDeed, work.do, place)
        self.assertEqual((work.waiting(), work.jobs(), work.lot(), work.done(), work.refuses()), ((), 2, ((2, 2), (2, 0)), True, False))

    def test_objects_share_nothing(self):
        musts = Musts(FLAT, REFUSING)
        one, other = Work(musts), Work(musts)
        one.do(0)
        one.do(0)
        self.assertEqual((one.jobs(), other.jobs()), (2, 0))
        self.assertEqual((one.refuses(), other.refuses()), (True, False))
        self.assertEqual(other.waiting(), ((2, 2),))

    def test_deep_nought(self):
        work = Work(Musts((SQUARE, 0, (), ()), TEST))
        self.assertEqual((work.waiting(), work.done(), work.refuses(), work.lot()), ((), True, True, ()))
        work = Work(musts=Musts((SQUARE, 0, (), ()), ("bad", ())))
        self.assertEqual((work.waiting(), work.done(), work.refuses(), work.lot()), ((), True, False, ()))
        self.assertRaises(NoDeed, work.do, 0)

    def test_parameters(self):
        def lot_of_work(musts):
            return Work(musts).waiting()
        check_parameters(self, lot_of_work, [("musts", Musts(FLAT, TEST))], {"musts": WRONG_MUSTS})


if __name__ == "__main__":
    unittest.main()
