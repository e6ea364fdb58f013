"""Sums of quotients that a table gives to blocks."""

from wholefaces.checks import demand
from wholefaces.kinds import is_pair, is_quotient
from wholefaces.members import is_member, is_name, name_made, ring_in
from wholefaces.nodes import named_halves
from wholefaces.quotients import minus, plus
from wholefaces.seats import point_generation
from wholefaces.solids import ascends

NOUGHT = (0, 1)


def is_table(solid, thing):
    """Whether any thing is a table: ascending pairs of names of blocks and quotients, no name twice."""
    if not isinstance(thing, tuple):
        return False
    if not all([is_pair(pair) and is_name(solid, pair[0]) and is_quotient(pair[1]) for pair in thing]):
        return False
    return ascends([name for name, _ in thing])


def sum_of_names(worths, names):
    """The sum of what the names of blocks are worth; worths tells it of some, nought is that of the others."""
    total = NOUGHT
    for name in names:
        if name in worths:
            total = plus(total, worths[name])
    return total


def gain_made(solid, worths, point):
    """What the halves of the blocks of the point's ring are worth more than the blocks themselves."""
    generation = point_generation(solid[0], point)
    total = NOUGHT
    for block in ring_in(solid, point):
        name = name_made(solid, block, generation)
        halves = [half for half, _ in named_halves(name, block)]
        total = plus(total, minus(sum_of_names(worths, halves), sum_of_names(worths, [name])))
    return total


def worths_of(table):
    """A table as a dict."""
    return {name: quotient for name, quotient in table}


def sum_over(mesh, table):
    """The sum of the quotients of the mesh's blocks."""
    demand(is_table(mesh.told()[0], table), "table")
    return sum_of_names(worths_of(table), mesh.block_names())


def gain_of(solid, table, point):
    """The sum, over the point's ring, of the quotients of both halves less that of the block."""
    demand(is_table(solid, table), "table")
    demand(is_member(solid, point), "point")
    return gain_made(solid, worths_of(table), point)


def sum_by_points(mesh, table):
    """The sum of the quotients of the roots and of the gains of the lot's points."""
    solid, lot = mesh.told()
    demand(is_table(solid, table), "table")
    worths = worths_of(table)
    total = sum_of_names(worths, [(number, "") for number in range(len(solid[1]))])
    for point in lot:
        total = plus(total, gain_made(solid, worths, point))
    return total
