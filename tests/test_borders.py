"""Rows of bodies: sides, borders, pieces, Euler numbers, measures, [41]."""

import unittest
from itertools import combinations

from tools import CUBE, LOW, PAIR, R0, R1, SQUARE, check_parameters
from wholefaces.borders import border_sides, euler_of, pieces_of, side_book, solid_measure
from wholefaces.measures import measure_of
from worlds import worlds

WRONG_BODIES = (None, True, 0, "", [], [R0], R0, (R0, None), (R0, ((0, 0), (4, 0))), (R0, ((0, 0), (4, 0), (4, True))),
                (R0, ((0, 0), (4, 0), (4, 0))), (R0, CUBE[1][0]), (CUBE[1][0], R0), (R0, [(0, 0), (4, 0), (4, 4)]),
                (((0,), (1,)),), (((0, 0, 0), (1, 0, 0), (0, 1, 0)),), (R0 + ((9, 9),),), (R0, 5), ((),))


def oracle_sides(bodies):
    """For each side the places of the bodies with it."""
    book = {}
    for place, body in enumerate(bodies):
        for side in combinations(sorted(body), len(body) - 1):
            book.setdefault(side, []).append(place)
    return book


def oracle_pieces(bodies):
    """The pieces, by joining labels again and again."""
    labels = list(range(len(bodies)))
    for _ in bodies:
        for places in oracle_sides(bodies).values():
            low = min(labels[place] for place in places)
            for place in places:
                labels[place] = low
    return tuple(tuple(k for k in range(len(bodies)) if labels[k] == label) for label in sorted(set(labels)))


def oracle_euler(bodies):
    """Corners less edges with triangles less tetrahedra."""
    return sum((-1) ** (many + 1) * len({frozenset(face) for body in bodies for face in combinations(body, many)})
               for many in (1, 2, 3, 4))


class BordersTest(unittest.TestCase):

    def check(self, bodies):
        book = oracle_sides(bodies)
        self.assertEqual(side_book(bodies), tuple(sorted((side, tuple(places)) for side, places in book.items())))
        alone = tuple(sorted((side, places[0]) for side, places in book.items() if len(places) == 1))
        self.assertEqual(border_sides(bodies), alone)
        self.assertEqual(pieces_of(bodies), oracle_pieces(bodies))
        self.assertEqual(euler_of(bodies), oracle_euler(bodies))

    def test_small_rows(self):
        self.assertEqual((side_book(()), border_sides(()), pieces_of(()), euler_of(())), ((), (), (), 0))
        self.assertEqual(side_book((R0, R1))[2], (((0, 0), (4, 4)), (0, 1)))
        self.assertEqual(border_sides((R0, R0)), ())
        self.assertEqual(border_sides((R1,))[0], (((0, 0), (4, 0)), 0))
        self.assertEqual(pieces_of((R0, ((8, 0), (4, 0), (4, 4)), R1)), ((0, 1, 2),))
        # R0 and the third root of PAIR share a corner alone: this links nothing.
        self.assertEqual(pieces_of((R0, PAIR[1][2], R0)), ((0, 2), (1,)))
        self.assertEqual(euler_of((R0,)), 1)
        self.assertEqual(euler_of((R0, R1)), 1)
        self.assertEqual(euler_of((CUBE[1][0],)), 1)
        self.assertEqual(euler_of(CUBE[1]), 1)
        ring = tuple(((0, 0), (a, b), (c, d)) for (a, b), (c, d) in zip(((1, 0), (0, 1), (-1, 0)), ((0, 1), (-1, 0), (1, 0))))
        self.check(ring)

    def test_flat_ones_and_any_corners(self):
        flat = ((0, 0), (4, 4), (2, 2))
        self.check((flat, R0, flat, ((2, 2), (4, 4), (0, 0))))
        self.assertEqual(border_sides((flat, flat)), ())
        self.assertEqual(side_book((R1[::-1],)), side_book((R1,)))
        self.check((((1, 5), (-7, 3), (10 ** 6, 0)), R0))

    def test_drawn_rows(self):
        rolls, made = worlds(411, 40)
        for world in made:
            blocks = list(world.blocks.values())
            bodies = [rolls.choice(blocks) for _ in range(rolls.randrange(9))]
            lot = [world.blocks[name] for name in world.leaves(world.draw_lot(rolls))]
            for row in (bodies, rolls.sample(lot, len(lot)), lot[::2], lot + lot[:3]):
                if len(row) < 60:
                    self.check(tuple(row))

    def test_solid_measure(self):
        self.assertEqual(solid_measure(SQUARE), 32)
        self.assertEqual(solid_measure(CUBE), 48)
        self.assertEqual(solid_measure(solid=PAIR), 64)
        for world in worlds(412, 10)[1]:
            self.assertEqual(solid_measure(world.solid), sum(measure_of(root) for root in world.roots))

    def test_parameters(self):
        for function in (side_book, border_sides, pieces_of, euler_of):
            check_parameters(self, function, [("bodies", (R0, LOW, R1))], {"bodies": WRONG_BODIES})


if __name__ == "__main__":
    unittest.main()
