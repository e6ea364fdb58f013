"""Meshes, fields and places drawn at random, and what the definitions say of them, told out in full."""

from fractions import Fraction
from math import gcd

from test_fieldvalues import oracle_value
from tools import SQUARE, WRONG_INTEGERS, WRONG_NUMBERS, WRONG_PLACES
from trees import random_expression
from wholefaces.meshclasses import Mesh
from worlds import fraction_weights

X, Y = ("axis", 0), ("axis", 1)
F = (("f", ("product", (X, X))),)
MESH = Mesh(SQUARE, ((2, 2),))
M = Mesh(SQUARE, ((2, 2), (2, 0)))
FRAME = (SQUARE, 2, (), F)
FLAT = (SQUARE, 2, (), (("f", X),))
ONE = ("sum", ((1, ("one",)),))
MARKED_FIELDS = (("f", ("product", (X, X))), ("g", ("sum", ((1, ("field", "f")), (-1, Y)))))

WRONG_FIELD_ROWS = (None, True, 0, "f", [], ("f",), (("f",),), (("f", ("axis", 2)),), (("f", ("field", "f")),), [("f", X)], (["f", X],),
                    (("f", X), ("f", Y)), (("x", X),), (("F", X),), (("f", ("axis", True)),), (("f", ("product", (X,))),), (("f", None),))
WRONG_FIELD_NAMES = (None, True, 0, "", "h", "x", "F", ("f",), ["f"], "f ")
# For MESH and M in SQUARE, with blocks of generations 1 and 2 at most, top being 4.
WRONG_DEEPS = WRONG_NUMBERS + (0, 5, 10 ** 59)
WRONG_C = WRONG_INTEGERS + ((1, 1), (8, 1))
OFF_PLACES = WRONG_PLACES + ((-1, 0, 1), (9, 1, 2), (5, 5, 1), (0, 401, 100))
FIELD_WRONGS = {"fields": WRONG_FIELD_ROWS, "field": WRONG_FIELD_NAMES}


def lowest(numbers, bottom):
    """The place numbers / bottom."""
    shared = gcd(bottom, *numbers)
    return tuple(number // shared for number in numbers) + (bottom // shared,)


def scaled_place(row):
    """The place of a row of fractions."""
    bottom = 1
    for number in row:
        bottom = bottom * number.denominator // gcd(bottom, number.denominator)
    return tuple(int(number * bottom) for number in row) + (bottom,)


def draw_bent(rolls, dims):
    """An expression that is not straight: a product of axes, and how far one of them is from a number."""
    axes = [("axis", rolls.randrange(dims)) for _ in range(3)]
    off = ("abs", ("sum", ((1, axes[2]), (rolls.choice((1, -1)), ("number", rolls.randrange(9))))))
    return ("sum", ((1, ("product", tuple(axes[:2]))), (rolls.choice((1, -1)), off)))


def draw_fields(rolls, dims, depth=2):
    """Two fields, the second of which may use the first; now and then one of them is straight, or the same everywhere."""
    first = random_expression(rolls, dims, [], depth) if rolls.randrange(3) == 0 else draw_bent(rolls, dims)
    second = random_expression(rolls, dims, ["f"], depth)
    if rolls.randrange(3):
        second = ("sum", ((rolls.choice((1, -1)), second), (1, draw_bent(rolls, dims)), (-1, ("field", "f"))))
    return (("f", first), ("g", second))


def value(fields, field, point):
    """The value of a field at a point."""
    return oracle_value(fields, ("field", field), point)


def draw_mesh(rolls, world, most=4):
    """A mesh of the world, its lot, and its leaves: a dict from name to block, names ascending."""
    lot = world.draw_lot(rolls, most)
    return Mesh(world.solid, lot), lot, {name: world.blocks[name] for name in world.leaves(lot)}


def draw_some_place(rolls, world, leaves):
    """A place at a corner, on a face, in the inside of a leaf, or anywhere; its bottom is at most 12."""
    body = leaves[rolls.choice(list(leaves))]
    kind = rolls.randrange(6)
    bottom = rolls.randrange(1, 13)
    if kind == 0:
        return tuple(rolls.choice(body)) + (1,)
    if kind == 1:
        unit = 2 ** world.rounds
        return lowest([bottom * rolls.choice(body)[i] + rolls.randrange(-unit * bottom, unit * bottom + 1) for i in range(world.dims)], bottom)
    # Cuts of the bottom tell the weights: with fewer corners the place lies on a face.
    corners = rolls.sample(body, rolls.randrange(1, len(body) + 1))
    cuts = sorted(rolls.randrange(bottom + 1) for _ in range(len(corners) - 1))
    weights = [b - a for a, b in zip([0] + cuts, cuts + [bottom])]
    return lowest([sum(w * corner[i] for w, corner in zip(weights, corners)) for i in range(world.dims)], bottom)


def place_weights(body, place):
    """The weights of a place in a body, as fractions."""
    return fraction_weights(body, place[:-1], place[-1])


def holding(leaves, place):
    """The names of the leaves that hold a place."""
    return tuple(name for name, block in leaves.items() if may_hold(block, place) and min(place_weights(block, place)) >= 0)


def may_hold(body, place):
    """Whether a place lies in the box round a body."""
    bottom = place[-1]
    return all(min(c[i] for c in body) * bottom <= place[i] <= max(c[i] for c in body) * bottom for i in range(len(place) - 1))


def carrier(body, place):
    """The carrier of a place in a body that holds it."""
    weights = place_weights(body, place)
    return tuple(sorted((corner, (w.numerator, w.denominator)) for corner, w in zip(body, weights) if w > 0))


def straight(fields, field, body, place):
    """The straight value at a place in a body, a fraction."""
    return sum(w * value(fields, field, corner) for w, corner in zip(place_weights(body, place), body))


def measure(body):
    """The measure of a body whose corners are rows of numbers."""
    rows = [[a - b for a, b in zip(corner, body[0])] for corner in body[1:]]
    if len(rows) == 2:
        return abs(rows[0][0] * rows[1][1] - rows[0][1] * rows[1][0])
    one, two, three = rows
    return abs(sum(one[i] * (two[i - 2] * three[i - 1] - two[i - 1] * three[i - 2]) for i in range(3)))


def sides_of(blocks):
    """For each side, as a frozen set of corners, the names of the blocks that have it."""
    book = {}
    for name, block in blocks.items():
        for k in range(len(block)):
            book.setdefault(frozenset(block[:k] + block[k + 1:]), []).append(name)
    return book


def tips(world, point):
    """The tips of a point: those of each block with it as its middle."""
    name = world.ring[point][0]
    block = world.blocks[name]
    return block[0], block[world.dims - len(name[1]) % world.dims]


def surplus(world, fields, field, point):
    """The surplus of a point."""
    return 2 * value(fields, field, point) - sum(value(fields, field, tip) for tip in tips(world, point))


def as_fraction(quotient):
    """The fraction of a quotient."""
    return Fraction(quotient[0], quotient[1])
