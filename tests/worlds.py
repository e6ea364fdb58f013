"""Solids drawn at random, but the same ones each time, with all that the definitions say of them told out in full."""

import random
from fractions import Fraction
from itertools import product

from tools import oracle_generation, oracle_halves, oracle_roots, oracle_weights


class World:
    """A solid, and all of its blocks and points, found by going through everything."""

    def __init__(self, solid):
        self.solid = solid
        self.space, self.roots = solid
        self.dims, self.rounds = self.space
        self.top = self.dims * self.rounds
        self.blocks = {}
        row = [((k, ""), root) for k, root in enumerate(self.roots)]
        for generation in range(self.top + 1):
            self.blocks.update(row)
            if generation < self.top:
                row = [((name[0], name[1] + "01"[k]), half) for name, block in row
                       for k, half in enumerate(oracle_halves(self.dims, block, generation))]
        self.names = sorted(self.blocks)
        self.name_of = {block: name for name, block in self.blocks.items()}
        self.middle = {}
        for name, block in self.blocks.items():
            if len(name[1]) < self.top:
                k = self.dims - len(name[1]) % self.dims
                self.middle[name] = tuple((a + b) // 2 for a, b in zip(block[0], block[k]))
        self.ring = {}
        for name in self.names:
            if name in self.middle:
                self.ring.setdefault(self.middle[name], []).append(name)
        self.generation = {}
        self.points = self.order(self.ring)
        self.needs = {p: self.order(c for name in ring for c in self.blocks[name] if self.is_new(c))
                      for p, ring in self.ring.items()}

    def is_new(self, point):
        return any(number % 2 ** self.rounds for number in point)

    def key(self, point):
        if point not in self.generation:
            self.generation[point] = oracle_generation(self.space, point)
        return self.generation[point], point

    def order(self, points):
        """The points, each once, in order."""
        return tuple(sorted(set(points), key=self.key))

    def below(self, generation):
        """The points of lesser generations."""
        return tuple(p for p in self.points if self.key(p)[0] < generation)

    def closure(self, points):
        """The least closed lot with the points, by adding needs until none is missing."""
        lot = set(points)
        while True:
            more = {need for p in lot for need in self.needs[p]} - lot
            if not more:
                return self.order(lot)
            lot |= more

    def is_closed(self, lot):
        return all(need in lot for p in lot for need in self.needs[p])

    def cutting(self, lot):
        """The names of the blocks that the mesh of a closed lot halves."""
        return tuple(name for name in self.names if self.is_node(name, lot) and self.middle.get(name) in lot)

    def leaves(self, lot):
        """The names of the blocks of the mesh of a closed lot."""
        return tuple(name for name in self.names if self.is_node(name, lot) and self.middle.get(name) not in lot)

    def is_node(self, name, lot):
        return all(self.middle[(name[0], name[1][:k])] in lot for k in range(len(name[1])))

    def cut_leaves(self, cutting):
        """The names of the leaves of a cutting."""
        nodes = [(k, "") for k in range(len(self.roots))] + [(n, path + f) for n, path in cutting for f in "01"]
        return tuple(sorted(set(nodes) - set(cutting)))

    def draw_points(self, rolls, most=4):
        """Some points, in any sequence, now and then twice."""
        if not self.points:
            return ()
        return tuple(rolls.choice(self.points) for _ in range(rolls.randrange(most + 1)))

    def draw_lot(self, rolls, most=4):
        """A closed lot: now and then () or all points."""
        kind = rolls.randrange(12)
        if kind == 0:
            return ()
        if kind == 1:
            return self.points
        return self.closure(self.draw_points(rolls, most))

    def draw_cutting(self, rolls, most=12):
        """A cutting: now and then that of a closed lot."""
        if rolls.randrange(4) == 0:
            return self.cutting(self.draw_lot(rolls, 2))
        row = [(k, "") for k in range(len(self.roots))]
        halved = []
        for _ in range(rolls.randrange(most)):
            row = [name for name in row if len(name[1]) < self.top]
            if not row:
                break
            name = rolls.choice(row[-3:] if rolls.randrange(2) else row)
            row.remove(name)
            halved.append(name)
            row += [(name[0], name[1] + f) for f in "01"]
        return tuple(sorted(halved))

    def draw_tale(self, rolls, most=6):
        """A tale."""
        tale, lot = [], ()
        for _ in range(rolls.randrange(most)):
            leaves = [name for name in self.leaves(lot) if len(name[1]) < self.top]
            if not leaves:
                break
            deepest = max(len(name[1]) for name in leaves)
            tale.append(rolls.choice([name for name in leaves if len(name[1]) == deepest or rolls.randrange(3) == 0] or leaves))
            lot = self.closure(lot + (self.middle[tale[-1]],))
        return tuple(tale)

    def draw_deep_tale(self, rolls):
        """A tale that goes on from block to block towards one place, as far as it can."""
        tale, births = [], set()
        number, path = rolls.randrange(len(self.roots)), "".join(rolls.choice("01") for _ in range(self.top))
        for k in range(self.top):
            if self.middle[(number, path[:k])] not in births:
                tale.append((number, path[:k]))
                births |= set(self.closure([self.middle[tale[-1]]]))
        return tuple(tale)

    def block_holds(self, name, point):
        """Whether a block holds a point."""
        block = self.blocks[name]
        if any(not min(c[i] for c in block) <= point[i] <= max(c[i] for c in block) for i in range(self.dims)):
            return False
        return min(oracle_weights(block, point + (1,))) >= 0


# Two cubes that touch in a side, an edge or a corner alone; the first one alone is there, too.
BESIDE = {2: ((0, 1), (1, 1)), 3: ((0, 0, 1), (0, 1, 1), (1, 1, 1), (1, -1, 1))}


def draw_solid(rolls, dims, rounds, many):
    """A solid with so many roots of one cube or of two."""
    first = tuple(rolls.randrange(-2, 3) for _ in range(dims))
    way = rolls.choice(BESIDE[dims] + ((0,) * dims,))
    cubes = sorted({first, tuple(a + b for a, b in zip(first, way))})
    roots = [root for cube in cubes for root in oracle_roots((dims, rounds), cube)]
    if many > len(roots):
        corner = [tuple(a + b for a, b in zip(first, step)) for step in product((0, 1), repeat=dims)]
        roots = [root for cube in corner for root in oracle_roots((dims, rounds), cube)]
    return (dims, rounds), tuple(sorted(rolls.sample(roots, min(many, len(roots)))))


def worlds(seed, many, most_plane=3, most_space=2, most_roots=4):
    """Worlds of the plane (units up to 8) and of space (units up to 4), now and then with eleven roots and more."""
    rolls = random.Random(seed)
    made = []
    for k in range(many):
        dims = 2 + k % 2
        rounds = rolls.randrange((most_plane if dims == 2 else most_space) + 1)
        if k % 5 < 3:
            rounds = max(1, rounds)
        roots = rolls.randrange(1, most_roots + 1)
        if k % 9 == 4:
            roots, rounds = rolls.randrange(8 if dims == 2 else 11, 15), min(rounds, 1)
        made.append(World(draw_solid(rolls, dims, rounds, roots)))
    return rolls, made


def draw_place(rolls, world):
    """A place in one of the roots, as a tuple of integers over a bottom that is not cancelled."""
    weights = [rolls.randrange(0, 5) for _ in range(world.dims + 1)]
    weights[0] += 1
    root = rolls.choice(world.roots)
    bottom = sum(weights)
    return tuple(sum(w * corner[i] for w, corner in zip(weights, root)) for i in range(world.dims)), bottom


def holds_place(body, numbers, bottom):
    """Whether a body holds the place numbers / bottom."""
    return min(fraction_weights(body, numbers, bottom)) >= 0


def fraction_weights(body, numbers, bottom):
    """The weights of a place in a body, as fractions."""
    if bottom == 1:
        return oracle_weights(body, numbers + (1,))
    scaled = [tuple(bottom * n for n in corner) for corner in body]
    return [Fraction(w) for w in oracle_weights(scaled, numbers + (1,))]


# What is wrong for parameters that are of a solid; SQUARE with its lot ((2, 2), (2, 0)) is meant.
WRONG_SOLIDS = (None, True, (), ((2, 2), ()), [(2, 2), ()], ((2, 2), (((0, 0), (4, 0), (4, 4)), ((0, 0), (0, 4), (4, 4)))),
                ((2, 2), (((0, 0), (0, 4), (4, True)),)), ((2, 2), (((0, 0), (4, 0), (2, 2)),)))
OFF_POINTS = (None, True, 1, "(2, 2)", [2, 2], (), (2,), (2, 2, 2), (True, 2), (2, None), ((2, 2),), (0, 0), (4, 4), (8, 8), (6, 2),
              (2, -2), (-1, 0), (10 ** 59, 2), (2, "2"))
OFF_POINT_ROWS = (None, True, (2, 2), [(2, 2)], ((2, 2), (0, 0)), ((2, 2), (6, 2)), ((2, 2), (2, True)), ((2, 2), [2, 0]), ((2, 2, 2),),
                  ((2, 2), None), "", {})
WRONG_LOTS = (None, True, 0, "", [], [(2, 2)], ((2, 2), (2, 2)), ((2, 0), (2, 2)), ((0, 0),), ((2, 2), (0, 0)), ((6, 2),),
              ((2, 2), (2, 0), (1, True)), ((2, 2, 0),), ((2, 2), [2, 0]), (2, 2), ((0, 0), (2, 2)), ((2, 2), (2, -2)))
OPEN_LOTS = (((2, 0),), ((2, 2), (1, 1)), ((2, 2), (2, 0), (1, 1)), ((2, 2), (0, 2), (1, 1)))
OFF_NAMES = (None, True, 0, "r0", (), (0,), (0, "", ""), [0, ""], (2, ""), (-1, ""), (True, ""), (False, "0"), ("0", ""), (0, "2"),
             (0, "00000"), (0, None), (0, 0), (0, ("0",)), (0, b""), (10 ** 59, ""))
WRONG_CUTTINGS = (None, True, 0, "", [], [(0, "")], (0, ""), ((0, "0"),), ((0, ""), (0, "")), ((0, "0"), (0, "")), ((1, ""), (0, "")),
                  ((0, ""), (0, "0"), (0, "000")), ((2, ""),), ((True, ""),), ((0, ""), [0, "0"]), ((0, ""), (0, "2")), ((0, ""), None),
                  ((0, ""), (0, "0"), (0, "00"), (0, "000"), (0, "0000")))
