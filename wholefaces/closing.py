"""Lots of points of a solid: which are closed, what they lack, and the closed ones next to them."""

from wholefaces.checks import demand
from wholefaces.members import are_members, needs_in
from wholefaces.orders import in_order
from wholefaces.seats import point_generation
from wholefaces.solids import ascends


def is_lot(solid, thing):
    """Whether any thing is a lot: a tuple of different points of the solid, in order."""
    if not are_members(solid, thing):
        return False
    return ascends([(point_generation(solid[0], point), point) for point in thing])


def first_missing(solid, points):
    """The first of the points, which are in order, that lacks a need, and the first need that it lacks, or None."""
    there = {point: True for point in points}
    for point in points:
        for need in needs_in(solid, point):
            if need not in there:
                return point, need
    return None


def is_closed_lot(solid, thing):
    """Whether any thing is a closed lot of the solid."""
    return is_lot(solid, thing) and first_missing(solid, thing) is None


def closure_made(solid, points):
    """The least closed lot that has all of the points of the solid."""
    found = {}
    left = list(points)
    while len(left) > 0:
        point = left.pop()
        if point not in found:
            found[point] = True
            left.extend(needs_in(solid, point))
    return in_order(solid[0], tuple(list(found)))


def within_made(solid, points):
    """The greatest closed lot that has points among these, which are in order, alone."""
    kept = {}
    # Needs have lower generations, so they come ahead of the points that need them.
    for point in points:
        if all([need in kept for need in needs_in(solid, point)]):
            kept[point] = True
    return tuple(list(kept))


def is_closed(solid, thing):
    """Whether any thing is a closed lot of the solid."""
    return is_closed_lot(solid, thing)


def missing_at(solid, points):
    """The first point, in order, that lacks a need, with the first need that is not among the points, or None."""
    demand(are_members(solid, points), "points")
    return first_missing(solid, in_order(solid[0], points))


def closure_of(solid, points):
    """The least closed lot that has all of the points."""
    demand(are_members(solid, points), "points")
    return closure_made(solid, points)


def greatest_within(solid, points):
    """The greatest closed lot that has points among these alone."""
    demand(are_members(solid, points), "points")
    return within_made(solid, in_order(solid[0], points))
