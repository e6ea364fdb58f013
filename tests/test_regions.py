"""Regions, places and blocks, [37], [41] and [9]."""

import random
import unittest

from tools import (LOW, PLANE, R0, R1, TINY, WRONG_BLOCKS, WRONG_PLACES, check_parameters, fractions_of, oracle_blocks,
                   oracle_halves)
from trees import random_region
from wholefaces.places import mean_place, place_of
from wholefaces.regions import halfwise, place_in, status_of

ALL = ("all",)
NONE = ("not", ALL)
SPACE = (3, 2)
WRONG_REGIONS = (None, True, ALL, [("a", ALL)], (("a", ALL), ("a", ALL)), (("a", ("name", "a")),),
                 (("a", ("name", "b")), ("b", ALL)), (("A", ALL),), (("all", ALL),), (("a",),), (["a", ALL],),
                 (("a", ("box", (0, 0), (0, 1))),), (("a", ("upto", ((2, 1),), 0)),), ((1, ALL),), (("a", ("all", 1)),))
WRONG_REGION = (None, True, "all", ["all"], (), ("name", "b"), ("not",), ("box", (0, 0), (0, 1)), ("upto", ((2, 1),), 0),
                ("upto", ((0, 1), (1, 1)), 3), ("upto", ((0, True),), 0), ("box", (0, 0, 0), (1, 1, 1)), ("and", ALL))


def oracle_place_in(regions, region, numbers):
    """Whether the region has the place with these numbers."""
    word = region[0]
    if word == "box":
        return all(low <= n <= high for low, n, high in zip(region[1], numbers, region[2]))
    if word == "upto":
        return sum(sign * numbers[axis] for axis, sign in region[1]) <= region[2]
    if word == "name":
        return oracle_place_in(regions, dict(regions)[region[1]], numbers)
    if word == "all":
        return True
    parts = [oracle_place_in(regions, part, numbers) for part in region[1:]]
    return not parts[0] if word == "not" else (all(parts) if word == "and" else any(parts))


def oracle_status(space, regions, region, block, generation):
    """The status, by all blocks of generation top."""
    dims, rounds = space
    row = [block]
    for now in range(generation, dims * rounds):
        row = [half for one in row for half in oracle_halves(dims, one, now)]
    told = {oracle_place_in(regions, region, fractions_of(mean_place(space, one))) for one in row}
    return "cut" if len(told) == 2 else ("in" if told == {True} else "out")


def oracle_halfwise(regions, region, block):
    """What halfwise tells, by the words of [37]."""
    word = region[0]
    if word == "all":
        return "in"
    if word == "name":
        return oracle_halfwise(regions, dict(regions)[region[1]], block)
    if word == "box":
        if all(oracle_place_in((), region, corner) for corner in block):
            return "in"
        for i in range(len(block[0])):
            if all(c[i] <= region[1][i] for c in block) or all(c[i] >= region[2][i] for c in block):
                return "out"
        return "unsure"
    if word == "upto":
        told = [sum(sign * corner[axis] for axis, sign in region[1]) for corner in block]
        return "in" if max(told) <= region[2] else "out" if min(told) >= region[2] else "unsure"
    parts = [oracle_halfwise(regions, part, block) for part in region[1:]]
    if word == "not":
        return {"in": "out", "out": "in"}.get(parts[0], "unsure")
    strong, weak = ("out", "in") if word == "and" else ("in", "out")
    return strong if strong in parts else weak if parts == [weak, weak] else "unsure"


class RegionsTest(unittest.TestCase):

    def check(self, space, regions, region, block, told):
        generation = told[0]
        status = status_of(space, regions, region, block)
        self.assertEqual(status, oracle_status(space, regions, region, block, generation))
        half = halfwise(space, regions, region, block)
        self.assertEqual(half, oracle_halfwise(regions, region, block))
        if half != "unsure":
            self.assertEqual(half, status)
        if generation == space[0] * space[1]:
            self.assertNotEqual(half, "unsure")
            self.assertEqual(place_in(space, regions, region, mean_place(space, block)), status == "in")
        else:
            parts = {status_of(space, regions, region, half) for half in oracle_halves(space[0], block, generation)}
            self.assertEqual(status in ("in", "out"), len(parts) == 1 and "cut" not in parts)

    def test_random_regions(self):
        rolls = random.Random(61)
        cases = [((2, 2), oracle_blocks((2, 2), [(0, 0), (-1, 0)])), ((2, 3), oracle_blocks((2, 3), [(0, -1)])),
                 ((3, 1), oracle_blocks((3, 1), [(0, 0, 0), (1, -1, 0)])),
                 ((3, 2), oracle_blocks((3, 2), [(0, 0, 0)], 3)), ((2, 0), oracle_blocks((2, 0), [(0, 0), (3, 1)]))]
        for k in range(120):
            space, blocks = cases[k % len(cases)]
            regions = ()
            for name in ("a", "b", "c1")[:rolls.randrange(4)]:
                known = [told for told, _ in regions]
                regions += ((name, random_region(rolls, space[0], known, 2)),)
            region = random_region(rolls, space[0], [told for told, _ in regions], 3)
            for block in rolls.sample(list(blocks), min(25, len(blocks))):
                self.check(space, regions, region, block, blocks[block])

    def test_walls(self):
        blocks = oracle_blocks(PLANE, [(0, 0)])
        walls = [("upto", ((i, 1),), bound) for i in (0, 1) for bound in range(-1, 6)]
        walls += [("upto", ((i, 1), (1 - i, sign)), bound) for i in (0, 1) for sign in (1, -1) for bound in range(-6, 11, 2)]
        walls += [("box", (x, y), (x + a, y + b)) for x in (-1, 0, 1, 2) for y in (0, 2) for a in (1, 2, 5) for b in (1, 4)]
        for wall in walls:
            for block, told in blocks.items():
                self.check(PLANE, (), wall, block, told)

    def test_walls_in_space(self):
        blocks = oracle_blocks(SPACE, [(0, 0, 0)], 2)
        walls = [("upto", ((i, 1),), 2) for i in range(3)]
        walls += [("upto", ((i, 1), (j, sign)), 4 if sign == 1 else 0) for i in range(3) for j in range(i) for sign in (1, -1)]
        for wall in walls:
            for region in (wall, ("or", wall, ("not", wall)), ("and", wall, ("not", wall))):
                for block, told in blocks.items():
                    self.check(SPACE, (), region, block, told)

    def test_along_through_and_in_corners(self):
        self.assertEqual(status_of(PLANE, (), ("upto", ((0, 1),), 4), R1), "in")
        self.assertEqual(status_of(PLANE, (), ("upto", ((0, 1),), 0), R1), "out")
        self.assertEqual(status_of(PLANE, (), ("upto", ((0, 1),), 2), R1), "cut")
        self.assertEqual(status_of(PLANE, (), ("upto", ((0, 1), (1, -1)), 0), R0), "in")
        self.assertEqual(status_of(PLANE, (), ("upto", ((0, 1), (1, -1)), 0), R1), "out")
        self.assertEqual(status_of(PLANE, (), ("box", (4, 4), (5, 5)), R1), "out")
        self.assertEqual(status_of(PLANE, (), ("box", (0, 0), (4, 4)), R1), "in")
        self.assertEqual(status_of(PLANE, (), NONE, R1), "out")
        self.assertIs(place_in(PLANE, (), ("box", (0, 0), (1, 1)), (1, 1, 1)), True)
        self.assertIs(place_in(PLANE, (), ("box", (0, 0), (1, 1)), (3, 1, 2)), False)
        self.assertIs(place_in(PLANE, (), ("not", ("box", (0, 0), (1, 1))), (1, 1, 1)), False)

    def test_unsure_blocks(self):
        left, right = ("upto", ((0, 1),), 2), ("not", ("upto", ((0, 1),), 2))
        for region, status in ((("or", left, right), "in"), (("and", left, right), "out"),
                               (("or", left, ("box", (2, 0), (4, 4))), "in"), (("not", ("or", left, right)), "out")):
            self.assertEqual(halfwise(PLANE, (), region, R1), "unsure")
            self.assertEqual(status_of(PLANE, (), region, R1), status)
        regions = (("a", left), ("b", ("not", ("name", "a"))))
        self.assertEqual(halfwise(PLANE, regions, ("or", ("name", "a"), ("name", "b")), R1), "unsure")
        self.assertEqual(status_of(PLANE, regions, ("or", ("name", "a"), ("name", "b")), R1), "in")
        self.assertEqual(halfwise(PLANE, regions, ("and", ("name", "a"), ALL), R1), "unsure")
        self.assertEqual(halfwise(PLANE, regions, ("and", ("name", "a"), NONE), R1), "out")

    def test_names_stand_for_their_regions(self):
        regions = (("a", ("box", (0, 0), (2, 2))), ("b", ("not", ("name", "a"))), ("c", ("and", ("name", "b"), ALL)))
        for numbers in ((0, 0), (2, 2), (5, 4), (1, 3)):
            place = place_of(PLANE, numbers, 2)
            inside = all(n <= 4 for n in numbers)
            self.assertIs(place_in(PLANE, regions, ("name", "a"), place), inside)
            self.assertIs(place_in(PLANE, regions, ("name", "c"), place), not inside)

    def test_places(self):
        rolls = random.Random(62)
        for k in range(400):
            dims = 2 + k % 2
            region = random_region(rolls, dims, [], 3)
            place = place_of((dims, 0), tuple(rolls.randrange(-30, 30) for _ in range(dims)), rolls.choice((1, 2, 3)))
            self.assertIs(place_in((dims, 2), (), region, place), oracle_place_in((), region, fractions_of(place)))

    def test_parameters(self):
        regions, region = (("a", ("box", (0, 0), (4, 2))),), ("not", ("name", "a"))
        good = [("space", PLANE), ("regions", regions), ("region", region)]
        wrong = {"regions": WRONG_REGIONS, "region": WRONG_REGION, "place": WRONG_PLACES, "block": WRONG_BLOCKS}
        check_parameters(self, place_in, good + [("place", (1, 3, 1))], wrong)
        for function in (halfwise, status_of):
            for block in (R1, LOW, TINY):
                check_parameters(self, function, good + [("block", block)], wrong)


if __name__ == "__main__":
    unittest.main()
