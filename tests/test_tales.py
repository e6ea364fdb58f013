"""Tales, births and chains of births, [51] and [8]; and what (G4) of [11] promises of them."""

import unittest

from test_plains import grain_and_open
from tools import ODDS, PAIR, SQUARE, check_parameters, deep
from wholefaces.errors import InvalidPaper
from wholefaces.tales import births_of, is_tale, lets_tale, tale_chain, told_lot
from worlds import OFF_NAMES, OFF_POINTS, worlds

TALE = ((1, ""), (1, "0"), (1, "01"))
WRONG_TALES = (None, True, 0, "", [], [(1, "")], (1, ""), ((1, "0"),), ((1, ""), (1, "")), ((1, ""), (0, "")), ((1, ""), (1, "00")),
               ((True, ""),), ((1, ""), [1, "0"]), ((1, ""), None), ((1, ""), (1, "2")), ((4, ""),), ((1, ""), (1, "0"), (1, "01"), (1, "0")),
               ((1, ""), (1, "0"), (1, "00"), (1, "000"), (1, "0000")))


def oracle_births(world, tale):
    """The births, by the closures of the beginnings of the tale."""
    births, lot = {}, ()
    for k, name in enumerate(tale):
        lot = world.closure(lot + (world.middle[name],))
        for point in lot:
            births.setdefault(point, k)
    return lot, births


def is_starred(point):
    """Whether all directions are open."""
    return len(grain_and_open(point)[1]) == len(point)


def oracle_chain(world, tale, births, point):
    """The chain of births of a starred point."""
    own = world.key(point)[0] // world.dims
    chain = [births[point]]
    while True:
        block = world.blocks[tale[chain[-1]]]
        level = len(tale[chain[-1]][1]) // world.dims
        if level <= own:
            return tuple(chain)
        size = 2 ** (world.rounds - level + 1)
        low = [min(c[i] for c in block) // size * size for i in range(world.dims)]
        chain.append(births[tuple(n + size // 2 for n in low)])


class TalesTest(unittest.TestCase):

    def test_example(self):
        self.assertEqual(tale_chain(PAIR, TALE, (6, 2)), (2, 0))
        self.assertEqual(lets_tale(PAIR, TALE, (6, 2), (2, 0)), 2)
        self.assertEqual((told_lot(PAIR, ()), births_of(PAIR, ()), is_tale(PAIR, ())), ((), (), True))
        self.assertEqual(births_of(PAIR, TALE[:2]), (((2, 2), 0), ((2, 0), 1)))

    def test_drawn_tales(self):
        rolls, made = worlds(511, 60)
        for world in made:
            tale = world.draw_tale(rolls, 8)
            lot, births = oracle_births(world, tale)
            self.assertIs(is_tale(world.solid, tale), True)
            self.assertEqual(told_lot(world.solid, tale), lot)
            self.assertEqual(births_of(world.solid, tale), tuple((p, births[p]) for p in lot))
            most = (42 if world.dims == 2 else 666) * world.rounds * len(tale)
            self.assertLessEqual(len(world.cutting(lot)), most)
            for point in lot:
                if is_starred(point):
                    chain = oracle_chain(world, tale, births, point)
                    self.assertEqual(tale_chain(world.solid, tale, point), chain)
                    self.check_papers(rolls, world, tale, point, chain)

    def test_long_chains(self):
        rolls, made = worlds(513, 40, 5, 3, 2)
        longest = 0
        for world in made:
            if len(world.roots) > 2:
                continue
            tale = world.draw_deep_tale(rolls)
            lot, births = oracle_births(world, tale)
            self.assertEqual(births_of(world.solid, tale), tuple((p, births[p]) for p in lot))
            for point in lot:
                if is_starred(point):
                    chain = oracle_chain(world, tale, births, point)
                    self.assertEqual(tale_chain(world.solid, tale, point), chain)
                    self.assertEqual(lets_tale(world.solid, tale, point, chain), len(chain))
                    if len(chain) > 2:
                        self.check_papers(rolls, world, tale, point, chain)
                    longest = max(longest, len(chain))
        self.assertGreater(longest, 2)

    def check_papers(self, rolls, world, tale, point, chain):
        """The right chain is accepted, all others are not."""
        self.assertEqual(lets_tale(world.solid, tale, point, chain), len(chain))
        wrong = [chain[:k] for k in range(len(chain))] + [chain + (k,) for k in range(-1, len(tale) + 1)] + [list(chain), chain + (None,)]
        for k in range(len(chain)):
            wrong += [chain[:k] + (other,) + chain[k + 1:] for other in list(range(-1, len(tale) + 1)) + [True, None, "0", (0,), 10 ** 50]
                      if isinstance(other, bool) or other != chain[k]]
        for thing in wrong:
            with self.assertRaises(InvalidPaper) as caught:
                lets_tale(world.solid, tale, point, thing)
            fault = oracle_fault(world, tale, point, thing)
            self.assertEqual((caught.exception.word, caught.exception.at), fault)

    def test_names_that_are_not_in_the_mesh(self):
        rolls, made = worlds(512, 40)
        for world in made:
            tale = world.draw_tale(rolls, 5)
            lot = oracle_births(world, tale)[0]
            leaves = [name for name in world.leaves(lot) if len(name[1]) < world.top]
            for name in rolls.sample(world.names, min(12, len(world.names))):
                self.assertIs(is_tale(world.solid, tale + (name,)), name in leaves)
            for name in tale:
                self.assertIs(is_tale(world.solid, tale + (name,)), False)

    def test_what_is_no_tale(self):
        for thing in WRONG_TALES + ODDS + (deep(TALE, 25), TALE[::-1], TALE[1:], ((1, ""),) * 5000):
            self.assertIs(is_tale(PAIR, thing), False, thing)
        for name in OFF_NAMES:
            if name != (2, ""):
                self.assertIs(is_tale(PAIR, (name,)), False)
                self.assertIs(is_tale(PAIR, ((1, ""), name)), False)
        # (0, "") was halved along with (1, ""), so its halves are there, but not itself.
        self.assertIs(is_tale(PAIR, ((1, ""), (0, "0"))), True)
        self.assertIs(is_tale(thing=TALE, solid=PAIR), True)

    def refuse(self, thing, word, at, tale=TALE, point=(6, 2)):
        with self.assertRaises(InvalidPaper) as caught:
            lets_tale(PAIR, tale, point, thing)
        self.assertEqual((caught.exception.word, caught.exception.at), (word, at))

    def test_papers(self):
        for thing in ODDS[:4] + ((), [2, 0], "20", {}):
            self.refuse(thing, "shape", -1)
        for first in (-1, 3, True, None, "2", (2,), 10 ** 59):
            self.refuse((first, 0), "place", 0)
        for first in (0, 1):
            self.refuse((first,), "birth", 0)
            self.refuse((first, None), "birth", 0)
        for second in (-1, 2, 3, False, None, "0"):
            self.refuse((2, second), "place", 1)
        self.refuse((2, 1), "birth", 1)
        self.refuse((2, 0, 0), "level", 1)
        self.refuse((2, 0, None), "level", 1)
        self.refuse((2,), "end", -1)
        self.refuse((0, 0), "level", 0, point=(2, 2))
        self.refuse((False,), "place", 0, point=(2, 2))
        self.assertEqual(lets_tale(PAIR, TALE, (2, 2), (0,)), 1)

    def test_parameters(self):
        solid = [("solid", PAIR), ("tale", TALE)]
        for function in (told_lot, births_of):
            check_parameters(self, function, solid, {"tale": WRONG_TALES})
        # Points that are not in told_lot, or not starred.
        points = tuple(p for p in OFF_POINTS if p != (6, 2)) + ((2, 0), (4, 2), (1, 1), (7, 3), (6, True))
        check_parameters(self, tale_chain, solid + [("point", (6, 2))], {"tale": WRONG_TALES, "point": points})
        good = solid + [("point", (6, 2)), ("thing", (2, 0))]
        check_parameters(self, lets_tale, good, {"tale": WRONG_TALES, "point": points})
        self.assertEqual(tale_chain(SQUARE, ((0, ""),), (2, 2)), (0,))


def oracle_fault(world, tale, point, thing):
    """The first fault of a paper that is not the chain, by the words of [51]."""
    if not isinstance(thing, tuple) or not thing:
        return "shape", -1
    births = oracle_births(world, tale)[1]
    own = world.key(point)[0] // world.dims
    centre = point
    for k, place in enumerate(thing):
        if type(place) is not int or not 0 <= place < len(tale) or (k and place >= thing[k - 1]):
            return "place", k
        if births[centre] != place:
            return "birth", k
        level = len(tale[place][1]) // world.dims
        if level < own or (level == own and k + 1 < len(thing)):
            return "level", k
        if level > own:
            size = 2 ** (world.rounds - level + 1)
            block = world.blocks[tale[place]]
            centre = tuple(min(c[i] for c in block) // size * size + size // 2 for i in range(world.dims))
    return "end", -1


if __name__ == "__main__":
    unittest.main()
