"""The roots of the cubes of level 0."""

from wholefaces.arrangements import all_orders, straight_walk
from wholefaces.blockparts import found_generation
from wholefaces.checks import demand
from wholefaces.kinds import is_row


def roots_made(space, cube):
    """The roots of the cube with the low corner unit times cube, ascending."""
    unit = 1 << space[1]
    first = tuple([unit * (number + number % 2) for number in cube])
    last = tuple([unit * (number + 1 - number % 2) for number in cube])
    return tuple(sorted([straight_walk(first, last, order) for order in all_orders(tuple(range(space[0])))]))


def cube_roots(space, cube):
    """The roots of the cube of level 0 with the low corner unit times cube, ascending."""
    demand(is_row(space[0], cube), "cube")
    return roots_made(space, cube)


def is_root(space, thing):
    """Whether the thing is a root of the space."""
    return found_generation(space, thing) == 0


def root_cube(space, root):
    """The cube for which cube_roots has the root."""
    demand(is_root(space, root), "root")
    unit = 1 << space[1]
    return tuple([min([corner[i] for corner in root]) // unit for i in range(space[0])])
