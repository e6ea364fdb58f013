"""How bodies meet, [75] to [77]; [80]; (G7) of [11]."""

import random
import unittest
from itertools import permutations

from bodytools import common_oracle, draw_beside, draw_body, held_by, ill_oracle, in_plane, rank_of, ways_of
from meshtools import place_weights
from tools import LOW, R0, R1, check_parameters, fractions_of, grid
from wholefaces.meeting import common_place, face_to_face, ill_met

FLAT_BODY = ((0, 0), (1, 1), (2, 2))
TETRA = ((0, 0, 0), (0, 0, 2), (0, 2, 2), (2, 2, 2))
WRONG_ROWS = (None, True, 0, "", [], (), [(0, 0)], (0, 0), ((0, 0), (0, 0)), ((0, 0), (1, 1), (2, 2)), ((0, 0), (1, 0), (0, 1), (1, 1)),
              ((0, 0), (1, 1, 1)), ((0,),), ((0, 0, 0, 0),), ((0, True),), ((0, None),), ("00",), ([0, 0],), ((),), (((0, 0),),))
WRONG_OTHERS = (None, True, 0, "", [], (), FLAT_BODY, ((0, 0), (0, 0), (1, 3)), TETRA, list(R0), R0[:2], R0 + ((1, 0),),
                ((0, 0), (4, 0), (4, True)), ((0, 0), (4, 0), [4, 4]), ((0, 0), (4, 0), (4, None)), ((0, 0), (4, 0), (4, 4, 4)))
WRONG_BODIES = (None, True, 0, "", [], [R0], R0, (R0, TETRA), (R0, None), (R0[:2],), (R0, list(R1)), (((0, 0), (4, 0), (4, True)),), (R0, ()),
                ((0, 0), (4, 0), (4, 4)), (TETRA, R0), (((0,), (1,)),))


class MeetingTest(unittest.TestCase):

    def test_examples(self):
        self.assertEqual((common_place(((0, 0), (1, 0)), ((5, 1), (5, 2))), common_place(((0, 0), (2, 0)), ((1, 0), (5, 0)))),
                         ((5, 0, 1), "many"))
        self.assertEqual(ill_met(R0, ((0, 0), (2, 2), (4, 0))), (2, 2, 1))
        self.assertEqual((face_to_face((R0, R1)), face_to_face((R0, R1, ((0, 4), (0, 0), (4, 4))))), (None, (0, 2, None)))

    def test_planes(self):
        self.assertEqual(common_place(((1, 2),), ((1, 2),)), (1, 2, 1))
        self.assertEqual(common_place(((1, 2),), ((1, 3),)), "none")
        self.assertEqual(common_place(((1, 2),), ((0, 0), (2, 4))), (1, 2, 1))
        self.assertEqual(common_place(((0, 0), (1, 1)), ((1, 0), (2, 1))), "none")
        self.assertEqual(common_place(((0, 0), (3, 1)), ((1, 0), (0, 1))), (3, 1, 4))
        self.assertEqual(common_place(R0, ((7, -3), (9, 9))), "many")
        self.assertEqual(common_place(R0, ((7, -3),)), (7, -3, 1))
        self.assertEqual(common_place(R0, R1), "many")
        self.assertEqual(common_place(((0, 0, 0), (2, 0, 0)), ((1, 1, 1), (1, 1, 3))), "none")
        self.assertEqual(common_place(((0, 0, 0), (2, 0, 0)), ((1, 0, 1), (1, 0, 3))), (1, 0, 0, 1))
        self.assertEqual(common_place(((0, 0, 0), (2, 0, 0), (0, 3, 0)), ((1, 1, 1), (1, 3, 2))), (1, -1, 0, 1))
        self.assertEqual(common_place(((0, 0, 0), (2, 0, 0), (0, 3, 0)), ((1, 1, 1), (1, 3, 1))), "none")
        self.assertEqual(common_place(((0, 0, 0), (2, 0, 0), (0, 3, 0)), ((1, 1, 1), (1, 3, 2), (5, 0, 2))), "many")
        self.assertEqual(common_place(TETRA, ((5, 5, 6),)), (5, 5, 6, 1))

    def test_drawn_planes(self):
        rolls, told = random.Random(75), {"none": 0, "many": 0, "place": 0}
        for _ in range(700):
            dims = rolls.choice((2, 3))
            rows = []
            while len(rows) < 2:
                row = tuple(tuple(rolls.randrange(-3, 4) for _ in range(dims)) for _ in range(rolls.randrange(1, dims + 2)))
                if rank_of(ways_of(row)) == len(row) - 1:
                    rows.append(row)
            one, other = rows
            if rolls.randrange(2):
                other = (rolls.choice(one),) + other[1:]
                if rank_of(ways_of(other)) < len(other) - 1:
                    continue
            found = common_place(one, other)
            self.assertEqual(found, common_oracle(one, other))
            self.assertEqual(common_place(other, one), found)
            told[found if isinstance(found, str) else "place"] += 1
            if isinstance(found, tuple):
                self.assertTrue(in_plane(one, fractions_of(found)) and in_plane(other, fractions_of(found)))
        self.assertGreater(min(told.values()), 60)

    def test_ill_met(self):
        # Nothing, a corner, an edge, a part, all corners.
        for other in (((9, 9), (9, 12), (12, 9)), ((0, 0), (-3, 0), (0, -3)), ((0, 0), (0, 4), (-4, 4)), R1, R0, ((4, 4), (0, 0), (0, 4))):
            self.assertIsNone(ill_met(R0, other))
            self.assertIsNone(ill_met(other, R0))
        self.assertEqual(ill_met(R0, ((0, 2), (-3, 0), (-3, 3))), (0, 2, 1))
        self.assertEqual(ill_met(((0, 2), (-3, 0), (-3, 3)), R0), (0, 2, 1))
        self.assertEqual(ill_met(((0, 0), (4, 0), (0, 4)), ((3, 3), (1, 1), (3, -7))), (3, 0, 1))
        self.assertEqual(ill_met(((0, 0), (4, 0), (0, 4)), ((3, 3), (-1, -1), (5, -1))), (0, 0, 1))
        self.assertEqual(ill_met(((1, 1), (2, 1), (1, 2)), ((0, 0), (9, 0), (0, 9))), (1, 1, 1))
        self.assertEqual(ill_met(((0, 0), (9, 0), (0, 9)), ((1, 1), (2, 1), (1, 2))), (1, 1, 1))
        # Two edges that cross, no corner in the other body.
        self.assertEqual(ill_met(((0, 0, 0), (2, 2, 0), (0, 0, -5), (5, 0, -5)), ((0, 2, 0), (2, 0, 0), (0, 0, 5), (5, 0, 5))), (1, 1, 0, 1))
        # Where the bodies part in the plane of an edge, but farther off.
        self.assertIsNone(ill_met(((0, 0), (1, 0), (0, 1)), ((3, 0), (5, 0), (3, 1))))

    def test_sequence_of_faces(self):
        # Several faces meet alone: the places of the corners, not their numbers, tell which comes first.
        other = ((0, 1), (9, 1), (9, 2))
        body = ((8, 0), (8, 4), (0, 4))
        found = set()
        for one in permutations(body):
            self.assertEqual(ill_met(one, other), ill_oracle(one, other))
            found.add(ill_met(one, other))
        for two in permutations(other):
            self.assertEqual(ill_met(body, two), ill_oracle(body, two))
            found.add(ill_met(body, two))
        self.assertGreater(len(found), 1)

    def test_drawn_bodies(self):
        rolls, told = random.Random(76), {True: 0, False: 0}
        for k in range(160):
            dims = 2 if k % 4 else 3
            body = draw_body(rolls, dims)
            other = draw_beside(rolls, body) if rolls.randrange(4) else draw_body(rolls, dims)
            found = ill_met(body, other)
            self.assertEqual(found, ill_oracle(body, other))
            self.assertEqual(found is None, ill_met(other, body) is None)
            told[found is None] += 1
            common = [corner for corner in body if corner in other]
            for numbers in grid(dims, -4, 4) if dims == 2 else rolls.sample(grid(dims, -4, 4), 40):
                place = numbers + (1,)
                if found is None and held_by(body, place) and held_by(other, place):
                    weights = place_weights(body, place)
                    self.assertTrue(all(w == 0 or corner in common for w, corner in zip(weights, body)))
            if found is not None:
                weights = place_weights(body, found)
                self.assertGreaterEqual(min(weights + place_weights(other, found)), 0)
                self.assertTrue(any(w > 0 and corner not in common for w, corner in zip(weights, body)))
        self.assertGreater(min(told.values()), 20)

    def test_face_to_face(self):
        far, ill = ((20, 0), (24, 0), (20, 4)), ((0, 0), (2, 2), (4, 0))
        self.assertIsNone(face_to_face(()))
        self.assertIsNone(face_to_face((R0,)))
        self.assertEqual(face_to_face((far, FLAT_BODY, R0, R0, FLAT_BODY)), (1, 1, None))
        self.assertEqual(face_to_face((R0, ill, ((1, 1), (1, 1), (1, 1)))), (2, 2, None))
        self.assertEqual(face_to_face((far, R0, R1, ill)), (1, 3, (2, 2, 1)))
        self.assertEqual(face_to_face((R0, far, R0, ill)), (0, 2, None))
        self.assertEqual(face_to_face((R0, ill, far, R0)), (0, 1, (2, 2, 1)))
        self.assertEqual(face_to_face((far, R1, R0[::-1], R0)), (2, 3, None))
        self.assertEqual(face_to_face((TETRA,) * 2), (0, 1, None))
        self.assertEqual(face_to_face((TETRA, ((0, 0, 0), (0, 0, 0), (1, 0, 0), (0, 1, 0)))), (1, 1, None))

    def test_drawn_rows(self):
        rolls = random.Random(77)
        for k in range(40):
            bodies = [draw_body(rolls, 2, 3)]
            for _ in range(rolls.randrange(5)):
                bodies.append(draw_beside(rolls, rolls.choice(bodies)))
            expected = None
            for i in range(len(bodies)):
                for j in range(i + 1, len(bodies)):
                    place = ill_oracle(bodies[i], bodies[j])
                    if expected is None and (set(bodies[i]) == set(bodies[j]) or place is not None):
                        expected = (i, j, None if set(bodies[i]) == set(bodies[j]) else place)
            self.assertEqual(face_to_face(tuple(bodies)), expected)

    def test_parameters(self):
        others = WRONG_ROWS + (((0, 0, 0),),)
        check_parameters(self, common_place, [("one", ((0, 0), (1, 0))), ("other", ((5, 1), (5, 2)))], {"one": WRONG_ROWS, "other": others})
        spatial = WRONG_ROWS + (((0, 0),), ((0, 0, 0), (1, 0, 0), (0, 1, 0), (1, 1, 0)))
        check_parameters(self, common_place, [("one", TETRA), ("other", TETRA[:2])], {"other": spatial})
        check_parameters(self, ill_met, [("body", R0), ("other", LOW)], {"other": WRONG_OTHERS})
        check_parameters(self, ill_met, [("body", TETRA), ("other", TETRA)], {"other": (R0, None, TETRA[:3], TETRA[:3] + (TETRA[0],))})
        check_parameters(self, face_to_face, [("bodies", (R0, R1))], {"bodies": WRONG_BODIES})


if __name__ == "__main__":
    unittest.main()
