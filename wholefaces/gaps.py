"""Boxes, cubes, and the gaps of two boxes or seats."""

from wholefaces.checks import demand
from wholefaces.kinds import is_new, is_number, is_pair, is_place, is_point, is_row
from wholefaces.seats import point_seat


def is_box(dims, thing):
    """Whether the thing is a box of so many dims."""
    if not is_pair(thing):
        return False
    lows, highs = thing
    return is_row(dims, lows) and is_row(dims, highs) and all([low <= high for low, high in zip(lows, highs)])


def box_gap(one, other):
    """The gap of two boxes: the most that lies between them in a direction."""
    lows, highs = one
    gap = 0
    for i in range(len(lows)):
        gap = max(gap, other[0][i] - highs[i], lows[i] - other[1][i])
    return gap


def gap_between(one, other):
    """The gap of two boxes of as many dims."""
    demand(is_box(2, one) or is_box(3, one), "one")
    demand(is_box(len(one[0]), other), "other")
    return box_gap(one, other)


def seat_gap(space, point, other):
    """The gap of the seats of two new points."""
    demand(is_new(space, point), "point")
    demand(is_new(space, other), "other")
    return box_gap(point_seat(point), point_seat(other))


def cube_width(space, level):
    """The width of the cubes of this level, at most rounds."""
    return 1 << (space[1] - level)


def cube_low(space, level, place):
    """The low corner of the first cube of this level, ascending, that holds the place."""
    width = cube_width(space, level)
    bottom = place[-1] * width
    # A place on a side counts to the cube below it, so the numbers are rounded up and one cube is taken off.
    return tuple([(-(-number // bottom) - 1) * width for number in place[:-1]])


def cube_of(space, level, place):
    """The low corner of the cube of this level that holds the place; of several the first."""
    demand(is_number(level) and level <= space[1], "level")
    demand(is_place(space, place), "place")
    return cube_low(space, level, place)


def cube_box(space, level, low):
    """The box of the cube of this level with the low corner low."""
    demand(is_number(level) and level <= space[1], "level")
    width = cube_width(space, level)
    demand(is_point(space, low) and all([number % width == 0 for number in low]), "low")
    return low, tuple([number + width for number in low])
