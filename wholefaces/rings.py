"""The whole ring of a new point, and what it needs."""

from wholefaces.arrangements import all_choices, all_orders, straight_walk
from wholefaces.checks import demand
from wholefaces.kinds import is_new
from wholefaces.orders import in_order
from wholefaces.seats import point_grain, point_opened, point_tips


def ring_made(point):
    """The whole ring of a new point, in its sequence."""
    first, last = point_tips(point)
    opened = point_opened(point)
    closed = tuple([i for i in range(len(point)) if i not in opened])
    ring = []
    for order in all_orders(opened):
        along = straight_walk(first, last, order)
        for across in all_orders(closed):
            ring.extend([along + side for side in side_walks(point, across)])
    return tuple(ring)


def side_walks(point, across):
    """The walks from a new point, without it, by its grain along these directions, for all signs."""
    grain = point_grain(point)
    walks = []
    for signs in all_choices([(1, -1)] * len(across)):
        ends = list(point)
        for direction, sign in zip(across, signs):
            ends[direction] = ends[direction] + sign * grain
        walks.append(straight_walk(point, ends, across)[1:])
    return walks


def needs_made(space, point):
    """The new points among the corners of the whole ring of a new point, in order."""
    corners = [corner for block in ring_made(point) for corner in block if is_new(space, corner)]
    return in_order(space, tuple(corners))


def whole_ring(space, point):
    """The blocks of the whole space with this new point as their middle, in their sequence."""
    demand(is_new(space, point), "point")
    return ring_made(point)


def whole_needs(space, point):
    """The new points among the corners of the whole ring, each once, in order."""
    demand(is_new(space, point), "point")
    return needs_made(space, point)
