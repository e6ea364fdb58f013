"""Frames, tests and musts drawn at random, and what the definitions say of them, told out in full."""

from fractions import Fraction
from itertools import combinations

from test_fieldvalues import oracle_value
from test_regions import oracle_place_in
from tools import PLANE, R0, R1, SQUARE, oracle_weights
from trees import MARKS, random_expression, random_region

BAR = "bar"
FRAME = (SQUARE, 4, (), ())
FLAT = (SQUARE, 2, (), ())
TEST = ("bad", ((1, ""), (1, "0")))
# A test that no lot of FLAT passes: the blocks round (2, 0) are bad down to deep.
REFUSING = ("bad", ((1, ""), (1, "0"), (1, "00")))
FRAME_PARAMETERS = (None, True, (), SQUARE, (SQUARE, 5, (), ()), (SQUARE, True, (), ()), [SQUARE, 4, (), ()], (SQUARE, 4, ()),
                    (SQUARE, 4, (("a", ("all",)),), (("a", ("axis", 0)),)), ((PLANE, (R1, R0)), 4, (), ()))
WRONG_TESTS = (None, True, 0, "bad", (), ["bad", ()], ("bad",), ("bad", ((1, ""), 5)), ("in", "a"), ("cut", "f"), ("has", (1, 1, 1)),
               ("corner", (1, True)), ("not",), ("and", ("bad", ())), ("compare", "<", ("sum", ()), ("sum", ((1, ("one",)),))),
               ("compare", "<", ("sum", ((1, ("error", "g")),)), ("sum", ((1, ("one",)),))), ("bad", ((True, ""),)), ("bad", [(0, "")]),
               ("compare", "!", ("sum", ((1, ("one",)),)), ("sum", ((1, ("one",)),))),
               ("compare", "<", ("sum", ((1, ("low", 2)),)), ("sum", ((1, ("one",)),))), ("or", ("bad", ()), ("bad", ((0, "2"),))))
# For FLAT and FRAME: what is no point of a generation below deep.
HIGH_POINTS = ((1, 1), (3, 1), (1, 2))


def draw_frame(rolls, world, most_blocks=200, named=True):
    """A frame of the world with a drawn deep."""
    deeps = [g for g in range(world.top + 1) if sum(1 for name in world.names if len(name[1]) <= g) <= most_blocks]
    deep = rolls.choice(deeps[-3:] if rolls.randrange(4) else deeps)
    regions, fields = (), ()
    if named:
        for name in ("a", "b1")[:rolls.randrange(3)]:
            known = [told for told, _ in regions]
            regions += ((name, random_region(rolls, world.dims, known, 2, rolls.choice((1, 2 ** world.rounds)))),)
        for name in ("f", "g")[:rolls.randrange(3)]:
            fields += ((name, random_expression(rolls, world.dims, [told for told, _ in fields], 2)),)
    return world.solid, deep, regions, fields


def names_within(world, deep):
    """The names of blocks of generations at most deep."""
    return [name for name in world.names if len(name[1]) <= deep]


def draw_names(rolls, world, deep):
    """Names of blocks: any ones, all that hold a point, or those on the way to some; now and then such of no block."""
    kind, known = rolls.randrange(3), names_within(world, deep)
    names = [name for name in known if rolls.randrange(2 + len(name[1])) == 0]
    names = rolls.sample(names, min(len(names), rolls.randrange(1, 40)))
    if kind == 1:
        point, most = rolls.choice(world.blocks[rolls.choice(known)]), rolls.randrange(deep + 1)
        names = [name for name in known if len(name[1]) <= most and world.block_holds(name, point)]
    elif kind == 2:
        ends = [rolls.choice(known) for _ in range(rolls.randrange(1, 4))]
        names = sorted({(number, path[:k]) for number, path in ends for k in range(len(path))})
    if rolls.randrange(4) == 0:
        names += [(99, ""), (0, "0" * (world.top + 1)), (0, "01" * 9)]
    return tuple(names)


def fine_oracle(world, deep, name):
    """The fine points of a block."""
    found = {corner for other in names_within(world, deep) if other[0] == name[0] and other[1].startswith(name[1])
             for corner in world.blocks[other]}
    return world.order(found)


def value_oracle(frame, field, point):
    """The value of a field at a point."""
    return oracle_value(frame[3], ("field", field), point)


def error_oracle(world, frame, field, name):
    """The error of a block for a field."""
    block = world.blocks[name]
    heights = [value_oracle(frame, field, corner) for corner in block]
    worst = Fraction(0)
    for point in fine_oracle(world, frame[1], name):
        straight = sum(w * height for w, height in zip(oracle_weights(block, point + (1,)), heights))
        worst = max(worst, abs(value_oracle(frame, field, point) - straight))
    return worst


def quantity_oracle(world, frame, quantity, name):
    """The value of a quantity for a block."""
    word, block, generation = quantity[0], world.blocks[name], len(name[1])
    if word == "error":
        return error_oracle(world, frame, quantity[1], name)
    if word in ("low", "high"):
        return Fraction((min if word == "low" else max)(corner[quantity[1]] for corner in block))
    if word in ("least", "most"):
        return Fraction((min if word == "least" else max)(value_oracle(frame, quantity[1], corner) for corner in block))
    level = generation // world.dims
    table = {"one": 1, "generation": generation, "level": level, "stage": generation % world.dims, "size": 2 ** world.rounds // 2 ** level}
    return Fraction(table[word])


def sum_oracle(world, frame, parts, name):
    """The value of a sum for a block."""
    return sum((number * quantity_oracle(world, frame, quantity, name) for number, quantity in parts[1]), Fraction(0))


def status_oracle(world, regions, region, name):
    """Whether a block is in, out of, or cut by a region, by all blocks of generation top."""
    told = set()
    for other in world.names:
        if len(other[1]) == world.top and other[0] == name[0] and other[1].startswith(name[1]):
            block = world.blocks[other]
            mean = [Fraction(sum(corner[i] for corner in block), world.dims + 1) for i in range(world.dims)]
            told.add(oracle_place_in(regions, region, mean))
    return "cut" if len(told) == 2 else "in" if told == {True} else "out"


def good_oracle(world, frame, test, name):
    """Whether a block is good."""
    word = test[0]
    if word == "compare":
        one, other = sum_oracle(world, frame, test[2], name), sum_oracle(world, frame, test[3], name)
        return {"<": one < other, "<=": one <= other, "=": one == other, ">": one > other, ">=": one >= other}[test[1]]
    if word in ("in", "out", "cut"):
        return status_oracle(world, frame[2], ("name", test[1]), name) == word
    if word == "has":
        return world.block_holds(name, test[1])
    if word == "corner":
        return test[1] in world.blocks[name]
    if word == "bad":
        return name not in test[1]
    parts = [good_oracle(world, frame, part, name) for part in test[1:]]
    return not parts[0] if word == "not" else all(parts) if word == "and" else any(parts)


def draw_quantity(rolls, frame, errors=True):
    """A quantity of the frame."""
    names = [name for name, _ in frame[3]]
    words = ["one", "generation", "level", "stage", "size", "low", "high"] + (["least", "most"] + ["error"] * errors if names else [])
    word = rolls.choice(words)
    if word in ("low", "high"):
        return word, rolls.randrange(frame[0][0][0])
    return (word, rolls.choice(names)) if word in ("least", "most", "error") else (word,)


def draw_sum(rolls, frame, errors=True):
    """A sum of the frame."""
    return "sum", tuple((rolls.choice((-2, -1, 0, 1, 1, 3)), draw_quantity(rolls, frame, errors)) for _ in range(rolls.randrange(1, 4)))


def draw_test(rolls, world, frame, depth=2, errors=True):
    """A test of the frame."""
    kind = rolls.randrange(8 if depth else 5)
    if kind == 0 and frame[2]:
        return rolls.choice(("in", "out", "cut")), rolls.choice(frame[2])[0]
    if kind == 1:
        return "compare", rolls.choice(MARKS), draw_sum(rolls, frame, errors), draw_sum(rolls, frame, errors)
    if kind == 2:
        low = rolls.choice(rolls.choice(world.roots))
        point = rolls.choice(world.points) if world.points and rolls.randrange(4) else low
        return rolls.choice(("has", "corner")), point
    if kind < 5:
        return "bad", draw_names(rolls, world, frame[1])
    if kind == 5:
        return "not", draw_test(rolls, world, frame, depth - 1, errors)
    return rolls.choice(("and", "or")), draw_test(rolls, world, frame, depth - 1, errors), draw_test(rolls, world, frame, depth - 1, errors)


class Known:
    """The sources and musts where just these blocks, of generations at most deep, are bad; and what follows."""

    def __init__(self, world, deep, bad):
        self.world, self.deep = world, deep
        self.bad = {name for name in bad if name in world.blocks and len(name[1]) <= deep}
        self.points = world.below(deep)
        roots = [name for name in sorted(self.bad) if name[1] == ""]
        self.sources = self.order([world.middle[name] for name in roots] if deep else [BAR for _ in roots])
        self.musts = {point: self.order(self.asked(point)) for point in self.points}

    def asked(self, point):
        """The musts of a point, in any sequence."""
        things = list(self.world.needs[point])
        for number, path in self.world.ring[point]:
            for half in ((number, path + "0"), (number, path + "1")):
                if half in self.bad:
                    things.append(BAR if len(half[1]) == self.deep else self.world.middle[half])
        return things

    def order(self, things):
        """The things, each once, in order, the bar last."""
        points = self.world.order(thing for thing in things if thing != BAR)
        return points + ((BAR,) if BAR in things else ())

    def reached(self, start):
        """The set of the things reached."""
        found = set(start)
        while True:
            more = {must for thing in found if thing != BAR for must in self.musts[thing]} - found
            if not more:
                return found
            found |= more

    def rounds(self, start):
        """The rounds, with their befores."""
        row = self.order(start)
        rounds, seen, befores = [], set(row), {thing: None for thing in row}
        while row:
            rounds.append(tuple((thing, befores[thing]) for thing in row))
            later = self.order({must for thing in row if thing != BAR for must in self.musts[thing]} - seen)
            befores = {thing: [p for p in row if p != BAR and thing in self.musts[p]][0] for thing in later}
            seen |= set(later)
            row = later
        return tuple(rounds)

    def chain(self, start, thing):
        """The chain of befores to a thing, or None."""
        befores = {one: before for row in self.rounds(start) for one, before in row}
        if thing not in befores:
            return None
        chain = [thing]
        while befores[chain[0]] is not None:
            chain.insert(0, befores[chain[0]])
        return tuple(chain)

    def forced(self):
        return self.reached(self.sources)

    def refuses(self):
        return BAR in self.forced()

    def least(self):
        return self.order(self.forced())

    def free_or_forced(self):
        return tuple(p for p in self.points if BAR not in self.reached([p]))

    def passes(self, lot):
        """Whether a lot passes, by the blocks of its mesh."""
        if not self.world.is_closed(lot) or any(p not in self.musts for p in lot):
            return False
        return not any(name in self.bad for name in self.world.leaves(lot))

    def passing(self):
        """All lots that pass, where there are few points."""
        return [lot for many in range(len(self.points) + 1) for lot in combinations(self.points, many) if self.passes(lot)]


def draw_known(rolls, world, most_blocks=400):
    """A frame without names, a test of bad names, and what is known of them."""
    frame = draw_frame(rolls, world, most_blocks, named=False)
    test = ("bad", draw_names(rolls, world, frame[1]))
    return frame, test, Known(world, frame[1], test[1])
