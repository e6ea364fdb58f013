"""Receivers, [101]; (G10) of [11]."""

import unittest

from meshtools import M, draw_mesh
from tools import PAIR, SQUARE, check_parameters
from wholefaces.closing import is_closed
from wholefaces.errors import NotUsable
from wholefaces.meshclasses import Mesh
from wholefaces.receivers import Receiver, sending_of
from worlds import OFF_POINTS, WRONG_SOLIDS, worlds


def shown_oracle(world, points):
    """The greatest closed lot of some points, by taking away what lacks a need until nothing does."""
    kept = set(points)
    while any(need not in kept for point in kept for need in world.needs[point]):
        kept = {point for point in kept if all(need in kept for need in world.needs[point])}
    return world.order(kept)


class ReceiversTest(unittest.TestCase):

    def test_needs_that_come_later(self):
        receiver = Receiver(SQUARE)
        self.assertEqual((receiver.points(), receiver.shown(), receiver.wanted()), ((), (), ()))
        self.assertIsNone(receiver.came((1, 1)))
        self.assertEqual((receiver.points(), receiver.shown(), receiver.wanted()), (((1, 1),), (), ((2, 2), (0, 2), (2, 0))))
        receiver.came((2, 0))
        receiver.came((1, 1))
        self.assertEqual((receiver.points(), receiver.shown(), receiver.wanted()), (((2, 0), (1, 1)), (), ((2, 2), (0, 2))))
        receiver.came((2, 2))
        self.assertEqual((receiver.shown(), receiver.wanted()), (((2, 2), (2, 0)), ((0, 2),)))
        receiver.came((0, 2))
        self.assertEqual((receiver.shown(), receiver.wanted()), (((2, 2), (0, 2), (2, 0), (1, 1)), ()))

    def test_sending(self):
        self.assertEqual(sending_of(M), ((2, 2), (2, 0)))
        self.assertEqual(sending_of(mesh=Mesh(PAIR, ())), ())

    def test_drawn_histories(self):
        rolls, made = worlds(1011, 50)
        for world in made:
            mesh, lot, leaves = draw_mesh(rolls, world)
            receiver, came = Receiver(world.solid), []
            points = list(sending_of(mesh))[:12] + list(world.draw_points(rolls, 4))
            rolls.shuffle(points)
            for point in points + points[:2]:
                self.assertIsNone(receiver.came(point))
                came.append(point)
                self.assertEqual(receiver.points(), world.order(came))
                self.assertEqual(receiver.shown(), shown_oracle(world, came))
                self.assertIs(is_closed(world.solid, receiver.shown()), True)
                wanted = {need for one in came for need in world.needs[one]} - set(came)
                self.assertEqual(receiver.wanted(), world.order(wanted))

    def test_a_mesh_sent(self):
        # In the sequence of sending all that came is shown at once; in any other, at the end.
        rolls, made = worlds(1012, 20)
        for world in made:
            mesh, lot, leaves = draw_mesh(rolls, world, 2)
            if len(lot) > 60:
                continue
            receiver = Receiver(world.solid)
            for k, point in enumerate(sending_of(mesh)):
                receiver.came(point)
                self.assertEqual((receiver.shown(), receiver.wanted()), (lot[:k + 1], ()))
            other = Receiver(world.solid)
            for point in rolls.sample(lot, len(lot)):
                other.came(point)
            self.assertEqual((other.shown(), other.points(), other.wanted()), (lot, lot, ()))

    def test_what_is_no_point(self):
        receiver = Receiver(SQUARE)
        receiver.came((2, 0))
        for point in OFF_POINTS:
            with self.assertRaises(NotUsable) as caught:
                receiver.came(point)
            self.assertEqual((caught.exception.word, caught.exception.at), ("point", -1))
            self.assertEqual((receiver.points(), receiver.shown(), receiver.wanted()), (((2, 0),), (), ((2, 2),)))

    def test_objects_share_nothing(self):
        one, other = Receiver(SQUARE), Receiver(SQUARE)
        before = one.points()
        one.came((2, 2))
        self.assertEqual((before, other.points(), one.points()), ((), (), ((2, 2),)))

    def test_parameters(self):
        def told(solid):
            return Receiver(solid).points()
        check_parameters(self, told, [("solid", SQUARE)], {"solid": WRONG_SOLIDS})
        receiver = Receiver(solid=PAIR)
        self.assertIsNone(receiver.came(point=(6, 2)))
        self.assertEqual(receiver.shown(), ((6, 2),))


if __name__ == "__main__":
    unittest.main()
