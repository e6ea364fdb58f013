"""Finer meshes, what meshes have in common and together, [44]; and what (G2) and (G3) of [11] promise."""

import unittest
from collections import Counter
from itertools import combinations

from test_meshclasses import LOT, OTHER_MESHES
from tools import SQUARE, check_parameters
from wholefaces.borders import euler_of
from wholefaces.closing import is_closed
from wholefaces.lattice import is_finer, join_of, meet_of
from wholefaces.measures import measure_of
from wholefaces.meshclasses import Mesh
from wholefaces.weights import carrier_in
from worlds import draw_place, holds_place, worlds


def lies_in(name, other):
    """Whether a block comes of another one, by their names."""
    return name[0] == other[0] and name[1].startswith(other[1])


class LatticeTest(unittest.TestCase):

    def test_drawn_meshes(self):
        rolls, made = worlds(441, 40)
        for world in made:
            lot, other = world.draw_lot(rolls, 2), world.draw_lot(rolls)
            for one, two in ((lot, other), (other, lot), (lot, world.order(lot + other)), (world.order(lot + other), lot)):
                mesh, mate = Mesh(world.solid, one), Mesh(world.solid, two)
                finer = all(any(lies_in(leaf, big) for big in mate.block_names()) for leaf in mesh.block_names())
                self.assertIs(is_finer(mesh, mate), finer)
                self.assertIs(is_finer(mesh, mesh), True)
                self.assertEqual(meet_of(mesh, mate), mesh & mate)
                self.assertEqual(join_of(mesh, mate), mesh | mate)
                self.assertIs(is_finer(join_of(mesh, mate), mesh), True)
                self.assertIs(is_finer(mate, meet_of(mesh, mate)), True)

    def test_blocks_of_both(self):
        rolls, made = worlds(442, 40)
        for world in made:
            one, two = Mesh(world.solid, world.draw_lot(rolls)), Mesh(world.solid, world.draw_lot(rolls))
            together = Counter(one.blocks()) + Counter(two.blocks())
            self.assertEqual(Counter((one & two).blocks()) + Counter((one | two).blocks()), together)
            self.assertIs(is_closed(world.solid, (one & two).told()[1]), True)
            self.assertIs(is_closed(world.solid, (one | two).told()[1]), True)

    def test_euler_number_and_measure(self):
        rolls, made = worlds(443, 40)
        for world in made:
            mesh = Mesh(world.solid, world.draw_lot(rolls))
            self.assertEqual(euler_of(mesh.blocks()), euler_of(world.roots))
            self.assertEqual(sum(map(measure_of, mesh.blocks())), sum(map(measure_of, world.roots)))

    def test_whole_faces(self):
        rolls, made = worlds(444, 30)
        for world in made:
            mesh = Mesh(world.solid, world.draw_lot(rolls, 2))
            for _ in range(6):
                numbers, bottom = draw_place(rolls, world)
                place = tuple(numbers) + (bottom,)
                holders = [block for block in mesh.blocks() if holds_place(block, numbers, bottom)]
                self.assertTrue(holders)
                reduced = carrier_place(place)
                self.assertEqual(len({carrier_in(block, reduced) for block in holders}), 1)

    def test_neighbours(self):
        rolls, made = worlds(445, 30)
        for world in made:
            mesh = Mesh(world.solid, world.draw_lot(rolls))
            named = list(zip(mesh.block_names(), mesh.blocks()))
            rolls.shuffle(named)
            for (name, block), (other, mate) in combinations(named[:40], 2):
                shared, apart = len(set(block) & set(mate)), abs(len(name[1]) - len(other[1]))
                if shared == world.dims:
                    self.assertLessEqual(apart, 1)
                if shared >= 2:
                    self.assertLessEqual(apart, 2 * world.dims - 3)

    def test_parameters(self):
        good = [("mesh", Mesh(SQUARE, LOT)), ("other", Mesh(SQUARE, LOT[:1]))]
        for function in (is_finer, meet_of, join_of):
            check_parameters(self, function, good, {"other": OTHER_MESHES})
        self.assertIs(is_finer(Mesh(SQUARE, LOT), Mesh(SQUARE, ())), True)
        self.assertIs(is_finer(Mesh(SQUARE, ()), Mesh(SQUARE, LOT)), False)


def carrier_place(row):
    """A place in lowest terms."""
    from math import gcd
    divisor = 0
    for number in row:
        divisor = gcd(divisor, number)
    return tuple(number // divisor for number in row)


if __name__ == "__main__":
    unittest.main()
