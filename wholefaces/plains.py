"""Plain cubes: those in which a cutting halves blocks of their own level or finer; and what sits by them."""

from wholefaces.blockparts import low_round
from wholefaces.checks import demand
from wholefaces.closing import is_closed_lot
from wholefaces.coarse import over_made
from wholefaces.cuttings import cutting_fits
from wholefaces.kinds import is_point
from wholefaces.members import ring_in
from wholefaces.nodes import halved_by_names
from wholefaces.seats import point_grain, point_level, point_opened


def cubes_made(solid, cutting):
    """The pairs (level, low corner) of plain cubes, ascending."""
    dims, rounds = solid[0]
    found = {}
    for name, block in halved_by_names(solid, cutting):
        for level in range(len(name[1]) // dims + 1):
            found[(level, low_round(block, 1 << (rounds - level)))] = True
    return tuple(sorted(found))


def is_starred(point):
    """Whether all directions of a new point are open."""
    return len(point_opened(point)) == len(point)


def sits_by(point, low):
    """Whether a new point sits by the cube of its own level with this low corner."""
    half = point_grain(point)
    opened = point_opened(point)
    for i in range(len(point)):
        way = point[i] - low[i]
        if way not in ((-half, half, 3 * half) if i in opened else (0, 2 * half)):
            return False
    return True


def plain_cubes(solid, cutting):
    """The pairs (level, low corner) of plain cubes, ascending."""
    demand(cutting_fits(solid, cutting), "cutting")
    return cubes_made(solid, cutting)


def starred_of(solid, lot):
    """The points of the lot of which all directions are open, in order."""
    demand(is_closed_lot(solid, lot), "lot")
    return tuple([point for point in lot if is_starred(point)])


def sitting_by(solid, cutting, point):
    """The first plain cube of the point's level by which it sits; the point is one of over_of."""
    demand(cutting_fits(solid, cutting), "cutting")
    space = solid[0]
    demand(is_point(space, point) and point in over_made(solid, cutting), "point")
    own = point_level(space, point)
    found = [(level, low) for level, low in cubes_made(solid, cutting) if level == own and sits_by(point, low)]
    return found[0]


def level_costs(solid, cutting):
    """For each level: how many plain cubes, halved blocks of stage 0, and blocks that over_of's mesh halves."""
    demand(cutting_fits(solid, cutting), "cutting")
    dims, rounds = solid[0]
    plains = [level for level, _ in cubes_made(solid, cutting)]
    firsts = [len(path) for _, path in cutting]
    rings = [(point_level(solid[0], point), len(ring_in(solid, point))) for point in over_made(solid, cutting)]
    costs = []
    for now in range(rounds):
        many = sum([ring for level, ring in rings if level == now])
        costs.append((plains.count(now), firsts.count(dims * now), many))
    return tuple(costs)
