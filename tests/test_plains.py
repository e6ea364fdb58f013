"""Plain cubes, starred points, what sits by what, and what levels cost, [50]; [8] and (G4) of [11]."""

import unittest
from itertools import product

from test_cuttings import CUT
from tools import PAIR, SQUARE, check_parameters
from wholefaces.coarse import over_of
from wholefaces.plains import level_costs, plain_cubes, sitting_by, starred_of
from worlds import OFF_POINTS, OPEN_LOTS, WRONG_CUTTINGS, WRONG_LOTS, worlds


def grain_and_open(point):
    """The grain and the open directions of a new point."""
    grain = 1
    while all(number % (2 * grain) == 0 for number in point):
        grain *= 2
    return grain, [i for i, number in enumerate(point) if number // grain % 2]


def oracle_plain(world, cutting):
    """All plain cubes: those among the cubes round the roots that hold a halved block of their level or more."""
    found = []
    lows = [min(c[i] for root in world.roots for c in root) for i in range(world.dims)]
    highs = [max(c[i] for root in world.roots for c in root) for i in range(world.dims)]
    for level in range(world.rounds + 1):
        size = 2 ** (world.rounds - level)
        for low in product(*[range(a, b, size) for a, b in zip(lows, highs)]):
            for name in cutting:
                held = all(low[i] <= c[i] <= low[i] + size for c in world.blocks[name] for i in range(world.dims))
                if held and len(name[1]) // world.dims >= level:
                    found.append((level, low))
                    break
    return tuple(sorted(found))


def oracle_sits(point, low):
    """Whether the point sits by the cube of its level with this low corner; doubled, so that all are integers."""
    grain, opened = grain_and_open(point)
    width = 2 * grain
    return all(2 * point[i] in ((2 * low[i] - width, 2 * low[i] + width, 2 * low[i] + 3 * width) if i in opened
                                else (2 * low[i], 2 * low[i] + 2 * width)) for i in range(len(point)))


class PlainsTest(unittest.TestCase):

    def test_example(self):
        self.assertEqual(level_costs(SQUARE, CUT), ((1, 1, 4), (1, 1, 2)))
        self.assertEqual(plain_cubes(SQUARE, CUT), ((0, (0, 0)), (1, (0, 0))))
        self.assertEqual(plain_cubes(SQUARE, ()), ())
        self.assertEqual(level_costs(SQUARE, ()), ((0, 0, 0), (0, 0, 0)))
        self.assertEqual(starred_of(SQUARE, ((2, 2), (0, 2), (2, 0), (1, 1))), ((2, 2), (1, 1)))
        self.assertEqual(starred_of(SQUARE, ()), ())
        self.assertEqual(sitting_by(SQUARE, CUT, (2, 0)), (0, (0, 0)))
        self.assertEqual(sitting_by(SQUARE, CUT, (1, 1)), (1, (0, 0)))

    def check(self, world, cutting):
        plains = oracle_plain(world, cutting)
        self.assertEqual(plain_cubes(world.solid, cutting), plains)
        over = over_of(world.solid, cutting)
        for point in over:
            level = world.key(point)[0] // world.dims
            near = [(l, low) for l, low in plains if l == level and oracle_sits(point, low)]
            self.assertEqual(sitting_by(world.solid, cutting, point), near[0])
        costs = []
        for level in range(world.rounds):
            halved = [name for name in world.cutting(over) if len(name[1]) // world.dims == level]
            firsts = [name for name in cutting if len(name[1]) == world.dims * level]
            costs.append((sum(1 for l, _ in plains if l == level), len(firsts), len(halved)))
            self.assertLessEqual(costs[-1][0], costs[-1][1])
            self.assertLessEqual(costs[-1][2], (42 if world.dims == 2 else 666) * costs[-1][0])
        self.assertEqual(level_costs(world.solid, cutting), tuple(costs))

    def test_drawn_cuttings(self):
        rolls, made = worlds(501, 50)
        for world in made:
            self.check(world, world.draw_cutting(rolls, 16))

    def test_row_of_halvings_to_the_end(self):
        for world in worlds(502, 14)[1]:
            for figures in ("0" * world.top, "1" * world.top, ("01" * world.top)[:world.top]):
                self.check(world, tuple((0, figures[:k]) for k in range(world.top)))

    def test_starred(self):
        rolls, made = worlds(503, 30)
        for world in made:
            lot = world.draw_lot(rolls)
            starred = tuple(p for p in lot if len(grain_and_open(p)[1]) == world.dims)
            self.assertEqual(starred_of(world.solid, lot), starred)
            self.assertEqual(starred, tuple(p for p in lot if world.key(p)[0] % world.dims == 0))

    def test_parameters(self):
        good = [("solid", SQUARE), ("cutting", CUT)]
        for function in (plain_cubes, level_costs):
            check_parameters(self, function, good, {"cutting": WRONG_CUTTINGS})
        points = OFF_POINTS + ((2, 4), (4, 2), (1, 3), (True, 1), (1, True))
        check_parameters(self, sitting_by, good + [("point", (1, 1))], {"cutting": WRONG_CUTTINGS, "point": points})
        good = [("solid", SQUARE), ("lot", ((2, 2), (2, 0)))]
        check_parameters(self, starred_of, good, {"lot": WRONG_LOTS + OPEN_LOTS})
        self.assertEqual(plain_cubes(PAIR, ((3, ""),)), ((0, (4, 0)),))


if __name__ == "__main__":
    unittest.main()
