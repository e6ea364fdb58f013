"""The roots of the cubes of level 0."""

from wholefaces.arrangements import all_orders, straight_walk
from wholefaces.blockparts import found_generation
from wholefaces.checks import demand
from wholefaces.kinds import is_row


def cube_tips(space, cube):
    """The corners of the cube with the low corner unit times cube at which its roots begin and end."""
    unit = 1 << space[1]
    first = tuple([unit * (number + number % 2) for number in cube])
    last = tuple([unit * (number + 1 - number % 2) for number in cube])
    return first, last


def roots_made(space, cube):
    """The roots of the cube with the low corner unit times cube, ascending."""
    first, last = cube_tips(space, cube)
    return tuple(sorted([straight_walk(first, last, order) for order in all_orders(tuple(range(space[0])))]))


def root_round(space, block):
    """The root of which a block comes: the one that holds the mean of its corners."""
    many = len(block)
    totals = [sum([corner[i] for corner in block]) for i in range(space[0])]
    first, last = cube_tips(space, [total // (many << space[1]) for total in totals])
    # A root holds the places that go no farther along each step from its first corner than along the one ahead.
    ways = sorted([(-abs(totals[i] - many * first[i]), i) for i in range(space[0])])
    return straight_walk(first, last, [i for _, i in ways])


def cube_roots(space, cube):
    """The roots of the cube of level 0 with the low corner unit times cube, ascending."""
    demand(is_row(space[0], cube), "cube")
    return roots_made(space, cube)


def is_root(space, thing):
    """Whether the thing is a root of the space."""
    return found_generation(space, thing) == 0


def root_cube(space, root):
    """The cube for which cube_roots has the root."""
    demand(is_root(space, root), "root")
    unit = 1 << space[1]
    return tuple([min([corner[i] for corner in root]) // unit for i in range(space[0])])
