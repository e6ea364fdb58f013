"""Single steps and deeds, [46]."""

import unittest

from test_meshclasses import LOT, OTHER_MESHES
from tools import PAIR, SQUARE, check_parameters
from wholefaces.deeds import deeds_between, done_deeds, halve_step, join_step
from wholefaces.errors import NoDeed, NotClosed, NotUsable, StillNeeded
from wholefaces.meshclasses import Mesh
from worlds import OFF_POINTS, worlds

WRONG_DEEDS = (None, True, 0, "halve", [], [("halve", (2, 2))], ("halve", (2, 2)), (("halve", (0, 0)),), (("halve", (6, 2)),),
               (("split", (2, 2)),), (("halve", (2, True)),), (("halve",),), (("halve", (2, 2), 1),), (["halve", (2, 2)],), ((1, (2, 2)),),
               (("halve", (0, 2)), None), (((), (2, 2)),), (("halve", [2, 2]),), (("halve", (2, 2, 0)),), (("Halve", (2, 2)),))


class DeedsTest(unittest.TestCase):

    def test_example(self):
        mesh, other = Mesh(SQUARE, LOT), Mesh(SQUARE, ((2, 2), (0, 2)))
        self.assertEqual(deeds_between(mesh, other), (("join", (2, 0)), ("halve", (0, 2))))
        self.assertEqual(done_deeds(mesh, deeds_between(mesh, other)), other)
        self.assertEqual(deeds_between(mesh, mesh), ())
        self.assertEqual(done_deeds(mesh, ()), mesh)

    def expected_step(self, world, lot, word, point):
        """The lot after a step, or the error that it raises, with what it tells."""
        if word == "halve":
            lacking = [need for need in world.needs[point] if need not in lot]
            if point in lot:
                return NotUsable, ("point", -1)
            return (NotClosed, (point, lacking[0])) if lacking else (None, world.order(lot + (point,)))
        users = [p for p in lot if point in world.needs[p]]
        if point not in lot:
            return NotUsable, ("point", -1)
        return (StillNeeded, (point, users[0])) if users else (None, tuple(p for p in lot if p != point))

    def check_step(self, world, lot, word, point):
        step = halve_step if word == "halve" else join_step
        error, told = self.expected_step(world, lot, word, point)
        mesh = Mesh(world.solid, lot)
        if error is None:
            self.assertEqual(step(mesh, point), Mesh(world.solid, told))
            self.assertEqual(done_deeds(mesh, ((word, point),)), Mesh(world.solid, told))
        else:
            with self.assertRaises(error) as caught:
                step(mesh, point)
            self.assertEqual(tuple(vars(caught.exception).values()), told)
            with self.assertRaises(NoDeed) as caught:
                done_deeds(mesh, ((word, point),))
            self.assertEqual(caught.exception.place, 0)
        self.assertEqual(mesh, Mesh(world.solid, lot))

    def test_steps(self):
        rolls, made = worlds(461, 30)
        for world in made:
            lot = world.draw_lot(rolls, 3)
            for point in rolls.sample(world.points, min(14, len(world.points))) + list(lot[:6]):
                for word in ("halve", "join"):
                    self.check_step(world, lot, word, point)

    def test_reasons_of_refusal(self):
        mesh = Mesh(SQUARE, LOT)
        self.assertRaises(NotUsable, halve_step, mesh, (2, 0))
        self.assertRaises(NotUsable, join_step, mesh, (0, 2))
        with self.assertRaises(NotClosed) as caught:
            halve_step(mesh, (1, 1))
        self.assertEqual((caught.exception.point, caught.exception.need), ((1, 1), (0, 2)))
        with self.assertRaises(StillNeeded) as caught:
            join_step(mesh, (2, 2))
        self.assertEqual((caught.exception.point, caught.exception.other), ((2, 2), (2, 0)))

    def test_there_and_back(self):
        rolls, made = worlds(462, 40)
        for world in made:
            lot, other = world.draw_lot(rolls, 3), world.draw_lot(rolls, 3)
            mesh, mate = Mesh(world.solid, lot), Mesh(world.solid, other)
            deeds = deeds_between(mesh, mate)
            joins = [("join", p) for p in reversed(lot) if p not in other]
            self.assertEqual(deeds, tuple(joins + [("halve", p) for p in other if p not in lot]))
            self.assertEqual(len(deeds), len(set(lot) ^ set(other)))
            self.assertEqual(done_deeds(mesh, deeds), mate)
            self.assertEqual(done_deeds(mate, deeds_between(mate, mesh)), mesh)

    def test_stops_in_the_middle(self):
        rolls, made = worlds(463, 30)
        for world in made:
            if not world.points:
                continue
            lot = start = world.draw_lot(rolls, 2)
            deeds = tuple((rolls.choice(("halve", "join")), rolls.choice(world.points[:9])) for _ in range(7))
            for k, (word, point) in enumerate(deeds):
                error, told = self.expected_step(world, lot, word, point)
                if error is not None:
                    with self.assertRaises(NoDeed) as caught:
                        done_deeds(Mesh(world.solid, start), deeds)
                    self.assertEqual(caught.exception.place, k)
                    break
                lot = told
            else:
                self.assertEqual(done_deeds(Mesh(world.solid, start), deeds), Mesh(world.solid, lot))
        deeds = (("halve", (0, 2)), ("halve", (1, 1)), ("join", (2, 0)), ("join", (1, 1)))
        with self.assertRaises(NoDeed) as caught:
            done_deeds(Mesh(SQUARE, LOT), deeds)
        self.assertEqual(caught.exception.place, 2)
        self.assertEqual(done_deeds(Mesh(SQUARE, LOT), deeds[:2] + deeds[3:]), Mesh(SQUARE, ((2, 2), (0, 2), (2, 0))))

    def test_many_deeds(self):
        deeds = (("halve", (0, 2)), ("join", (0, 2))) * 150
        self.assertEqual(done_deeds(Mesh(SQUARE, LOT), deeds), Mesh(SQUARE, LOT))

    def test_parameters(self):
        mesh = [("mesh", Mesh(SQUARE, LOT))]
        check_parameters(self, halve_step, mesh + [("point", (0, 2))], {"point": OFF_POINTS + LOT})
        check_parameters(self, join_step, mesh + [("point", (2, 0))], {"point": OFF_POINTS + ((0, 2), (1, 1))})
        fine = Mesh(SQUARE, ((2, 2), (0, 2), (2, 0), (1, 1)))
        check_parameters(self, join_step, [("mesh", fine), ("point", (1, 1))], {"point": ((True, 1), (1, True), [1, 1], (1, 1, 1))})
        check_parameters(self, deeds_between, mesh + [("other", Mesh(SQUARE, ()))], {"other": OTHER_MESHES + (Mesh(PAIR, ()),)})
        check_parameters(self, done_deeds, mesh + [("deeds", (("halve", (0, 2)),))], {"deeds": WRONG_DEEDS})
        # A deed that is none is told ahead of one that is refused.
        with self.assertRaises(NotUsable):
            done_deeds(Mesh(SQUARE, LOT), (("join", (2, 2)), ("join", (0, 0))))


if __name__ == "__main__":
    unittest.main()
