"""Answers about all lots that pass: where a point stands, what goes together, what parts two Musts."""

from wholefaces.charts import BAR
from wholefaces.checks import demand
from wholefaces.extremes import demand_passing, greatest_without, leading_to
from wholefaces.mustclasses import Musts
from wholefaces.reaching import reached_made, table_of


def least_made(table, sources, points, others):
    """The least lot that passes and has all of the points, but none of the others; None if there is none."""
    reached = reached_made(table, sources + points)
    if BAR in reached or any([point in others for point in reached]):
        return None
    return reached


def standing_of(musts, point):
    """Whether the point is "forced", "free" or "barred"."""
    demand(musts.knows(point), "point")
    table = table_of(musts)
    demand_passing(table, musts.sources())
    if point in reached_made(table, musts.sources()):
        return "forced"
    return "barred" if point in leading_to(table, (BAR,)) else "free"


def demand_points(musts, points, others):
    """Raises NotUsable for the first of the two parameters that is no tuple of points."""
    demand(musts.knows_all(points), "points")
    demand(musts.knows_all(others), "others")


def either(musts, points, others):
    """Whether each lot that passes and has all of the points has one of the others."""
    demand_points(musts, points, others)
    return least_made(table_of(musts), musts.sources(), points, others) is None


def least_with(musts, points, others):
    """The least lot that passes and has all of the points, but none of the others; None if there is none."""
    demand_points(musts, points, others)
    return least_made(table_of(musts), musts.sources(), points, others)


def greatest_with(musts, points, others):
    """The greatest lot that passes and has all of the points, but none of the others; None if there is none."""
    demand_points(musts, points, others)
    table = table_of(musts)
    if least_made(table, musts.sources(), points, others) is None:
        return None
    return greatest_without(table, (BAR,) + others)


def parting_lot(table, sources, other):
    """A lot that passes, but does not pass the other Musts; None if there is none."""
    least = least_made(table, sources, (), ())
    if least is None:
        return None
    if any([source not in least for source in other.sources()]):
        return least
    for point in table:
        lot = least_made(table, sources, (point,), ())
        if lot is not None and any([must not in lot for must in other.of(point)]):
            return lot
    return None


def parted_by(musts, other):
    """None if each lot that passes musts passes the other Musts, otherwise a lot that passes musts alone."""
    demand(isinstance(other, Musts) and other.told()[0][:2] == musts.told()[0][:2], "other")
    return parting_lot(table_of(musts), musts.sources(), other)
