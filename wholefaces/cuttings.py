"""Cuttings: any blocks halved from the roots on, also such that do not meet in whole faces."""

from wholefaces.checks import demand
from wholefaces.gaps import box_gap
from wholefaces.members import is_name, new_corners
from wholefaces.nodes import halved_by_points, leaves_by_names, middles_by_names, top_of
from wholefaces.orders import in_order
from wholefaces.solids import ascends
from wholefaces.weights import holds_made


def cutting_fits(solid, thing):
    """Whether any thing is a cutting."""
    if not isinstance(thing, tuple):
        return False
    top = top_of(solid)
    if not all([is_name(solid, name) and len(name[1]) < top for name in thing]) or not ascends(thing):
        return False
    there = {name: True for name in thing}
    return all([path == "" or (number, path[:-1]) in there for number, path in thing])


def box_round(body):
    """The least box that holds a body."""
    dims = len(body) - 1
    lows = tuple([min([corner[i] for corner in body]) for i in range(dims)])
    return lows, tuple([max([corner[i] for corner in body]) for i in range(dims)])


def loose_in(leaf, points):
    """Those of the points that a leaf holds without having them as corners."""
    box = box_round(leaf)
    near = [point for point in points if box_gap(box, (point, point)) == 0]
    return [point for point in near if point not in leaf and holds_made(leaf, point + (1,))]


def loose_made(solid, cutting):
    """The triples (name, leaf, point) of the loose corners, by names, those of one name in order."""
    leaves = leaves_by_names(solid, cutting)
    # A base point in a block is one of its corners, so it is never loose.
    points = new_corners(solid[0], [leaf for _, leaf in leaves])
    return [(name, leaf, point) for name, leaf in leaves for point in loose_in(leaf, points)]


def is_half_way(leaf, point):
    """Whether a point is half-way of two corners of a leaf."""
    doubled = tuple([2 * number for number in point])
    sums = [tuple([a + b for a, b in zip(leaf[i], leaf[j])]) for j in range(len(leaf)) for i in range(j)]
    return doubled in sums


def is_cutting(solid, thing):
    """Whether any thing is a cutting of the solid."""
    return cutting_fits(solid, thing)


def leaves_of(solid, cutting):
    """The names of the leaves of a cutting, ascending."""
    demand(cutting_fits(solid, cutting), "cutting")
    return tuple([name for name, _ in leaves_by_names(solid, cutting)])


def cutting_of(mesh):
    """The cutting of the mesh's lot."""
    solid, lot = mesh.told()
    return tuple([name for name, _ in halved_by_points(solid, lot)])


def middles_of(solid, cutting):
    """The middles of the halved blocks of a cutting, in order, each once."""
    demand(cutting_fits(solid, cutting), "cutting")
    return in_order(solid[0], middles_by_names(solid, cutting))


def loose_corners(solid, cutting):
    """The pairs (name of a leaf, loose corner in it), by names, those of one name in order."""
    demand(cutting_fits(solid, cutting), "cutting")
    return tuple([(name, point) for name, _, point in loose_made(solid, cutting)])


def half_corners(solid, cutting):
    """Those of the loose corners that are half-way of two corners of the leaf."""
    demand(cutting_fits(solid, cutting), "cutting")
    return tuple([(name, point) for name, leaf, point in loose_made(solid, cutting) if is_half_way(leaf, point)])
