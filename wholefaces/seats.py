"""The grain, the open directions, the level, the generation, the tips and the seat of a point."""

from wholefaces.arrangements import all_choices
from wholefaces.checks import demand
from wholefaces.kinds import is_new, is_point


def point_grain(point):
    """The greatest power of two of which all numbers of a new point are multiples."""
    joined = 0
    for number in point:
        joined = joined | number
    return joined & -joined


def point_opened(point):
    """The open directions of a new point, ascending."""
    grain = point_grain(point)
    return tuple([i for i in range(len(point)) if point[i] & grain != 0])


def point_level(space, point):
    """The level of a new point."""
    return space[1] - point_grain(point).bit_length()


def point_generation(space, point):
    """The generation of a point, -1 for a base point."""
    if not is_new(space, point):
        return -1
    dims = space[0]
    return dims * point_level(space, point) + dims - len(point_opened(point))


def point_seat(point):
    """The lowest and the highest corner of the seat of a new point."""
    grain = point_grain(point)
    opened = point_opened(point)
    lows = tuple([point[i] - grain if i in opened else point[i] for i in range(len(point))])
    highs = tuple([point[i] + grain if i in opened else point[i] for i in range(len(point))])
    return lows, highs


def point_tips(point):
    """The first and the last tip of a new point."""
    width = 2 * point_grain(point)
    lows, highs = point_seat(point)
    first = tuple([low if low & width == 0 else high for low, high in zip(lows, highs)])
    last = tuple([low + high - tip for low, high, tip in zip(lows, highs, first)])
    return first, last


def grain_of(space, point):
    """The grain of a new point."""
    demand(is_new(space, point), "point")
    return point_grain(point)


def open_of(space, point):
    """The open directions of a new point, ascending."""
    demand(is_new(space, point), "point")
    return point_opened(point)


def level_of(space, point):
    """The level of a new point."""
    demand(is_new(space, point), "point")
    return point_level(space, point)


def generation_of(space, point):
    """The generation of a point, -1 for a base point."""
    demand(is_point(space, point), "point")
    return point_generation(space, point)


def seat_of(space, point):
    """The pair of the lowest and the highest corner of the seat of a new point."""
    demand(is_new(space, point), "point")
    return point_seat(point)


def tips_of(space, point):
    """The pair of the first and the last tip of a new point."""
    demand(is_new(space, point), "point")
    return point_tips(point)


def seat_corners(space, point):
    """All corners of the seat of a new point, ascending."""
    demand(is_new(space, point), "point")
    lows, highs = point_seat(point)
    rows = [(low,) if low == high else (low, high) for low, high in zip(lows, highs)]
    return tuple(all_choices(rows))
