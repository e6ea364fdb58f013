"""Tales: blocks halved one after the other, each with all that this brings along; and why a point came."""

from wholefaces.blockparts import low_round
from wholefaces.checks import demand
from wholefaces.errors import InvalidPaper
from wholefaces.gaps import box_gap
from wholefaces.kinds import is_number, is_point
from wholefaces.members import block_by_name, is_name, middle_named, needs_in
from wholefaces.nodes import top_of
from wholefaces.orders import in_order
from wholefaces.plains import is_starred
from wholefaces.seats import point_level, point_seat


def is_leaf(solid, births, name):
    """Whether a block of a generation below top is one of the mesh of the points born so far."""
    number, path = name
    if middle_named(solid, name) in births:
        return False
    return path == "" or middle_named(solid, (number, path[:-1])) in births


def births_made(solid, thing):
    """The births of all points of a tale, as a dict; None if any thing is no tale."""
    if not isinstance(thing, tuple):
        return None
    births = {}
    top = top_of(solid)
    for place, name in enumerate(thing):
        if not is_name(solid, name) or len(name[1]) >= top or not is_leaf(solid, births, name):
            return None
        left = [middle_named(solid, name)]
        while len(left) > 0:
            point = left.pop()
            if point not in births:
                births[point] = place
                left.extend(needs_in(solid, point))
    return births


def demand_tale(solid, tale):
    """The births of the points of the parameter tale; raises NotUsable if it is none."""
    births = births_made(solid, tale)
    demand(births is not None, "tale")
    return births


def demand_starred(space, births, point):
    """Raises NotUsable unless the parameter point is a starred one among those that were born."""
    demand(is_point(space, point) and point in births and is_starred(point), "point")


def cube_boxed(block, size):
    """The box of the cube of this size in which a block lies."""
    low = low_round(block, size)
    return low, tuple([number + size for number in low])


def centre_of(box):
    """The centre of the box of a cube."""
    return tuple([(low + high) // 2 for low, high in zip(box[0], box[1])])


def is_tale(solid, thing):
    """Whether any thing is a tale of the solid."""
    return births_made(solid, thing) is not None


def told_lot(solid, tale):
    """The closure of the middles of all blocks named in the tale."""
    births = demand_tale(solid, tale)
    return in_order(solid[0], tuple(list(births)))


def births_of(solid, tale):
    """The pairs (point, birth) for the points of told_lot, in order."""
    births = demand_tale(solid, tale)
    return tuple([(point, births[point]) for point in in_order(solid[0], tuple(list(births)))])


def tale_chain(solid, tale, point):
    """The births that lead from a starred point to a block of its own level."""
    births = demand_tale(solid, tale)
    space = solid[0]
    demand_starred(space, births, point)
    dims, rounds = space
    own = point_level(space, point)
    chain = [births[point]]
    name = tale[births[point]]
    while len(name[1]) // dims > own:
        asked = cube_boxed(block_by_name(solid, name), 1 << (rounds + 1 - len(name[1]) // dims))
        chain.append(births[centre_of(asked)])
        name = tale[chain[-1]]
    return tuple(chain)


def lets_tale(solid, tale, point, thing):
    """How many elements the thing has, which must be the tale_chain of the point."""
    births = demand_tale(solid, tale)
    space = solid[0]
    demand_starred(space, births, point)
    if not isinstance(thing, tuple) or len(thing) == 0:
        raise InvalidPaper("shape", -1)
    dims, rounds = space
    own = point_level(space, point)
    asked = point_seat(point)
    for k in range(len(thing)):
        if not is_number(thing[k]) or thing[k] >= len(tale) or (k > 0 and thing[k] >= thing[k - 1]):
            raise InvalidPaper("place", k)
        if births[centre_of(asked)] != thing[k]:
            raise InvalidPaper("birth", k)
        name = tale[thing[k]]
        level = len(name[1]) // dims
        if level < own or (level == own and k + 1 < len(thing)):
            raise InvalidPaper("level", k)
        block = block_by_name(solid, name)
        if box_gap(cube_boxed(block, asked[1][0] - asked[0][0]), asked) > 0:
            raise InvalidPaper("touch", k)
        asked = cube_boxed(block, 1 << (rounds + 1 - level))
    if level > own:
        raise InvalidPaper("end", -1)
    return len(thing)
