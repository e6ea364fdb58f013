"""Surpluses: by how much a field at a point is off the straight line between its tips; and lots that carry them."""

from wholefaces.checks import demand
from wholefaces.closing import closure_made
from wholefaces.fieldvalues import demand_field, field_value
from wholefaces.kinds import is_number
from wholefaces.members import is_member, points_below
from wholefaces.quotients import quotient_of
from wholefaces.seats import point_tips
from wholefaces.treeparts import names_in
from wholefaces.wordnames import is_name_of


def surplus_made(fields, field, point):
    """The surplus of a new point: twice the value at it, less the values at its tips."""
    first, last = point_tips(point)
    return 2 * field_value(fields, field, point) - field_value(fields, field, first) - field_value(fields, field, last)


def lot_above(frame, field, most):
    """The closure of the points of generations below deep whose surplus, without its sign, is above most."""
    solid, deep, _, fields = frame
    points = points_below(solid, deep)
    return closure_made(solid, [point for point in points if abs(surplus_made(fields, field, point)) > most])


def surplus_of(solid, fields, field, point):
    """The surplus of a point of the solid."""
    demand_field(solid[0][0], fields, field)
    demand(is_member(solid, point), "point")
    return surplus_made(fields, field, point)


def carrying_lot(frame, field):
    """The closure of the points whose surplus is not 0."""
    demand(is_name_of(names_in(frame[3]), field), "field")
    return lot_above(frame, field, 0)


def thinned_lot(frame, field, most):
    """The closure of the points whose surplus is above most, and a bound of the errors over its mesh."""
    demand(is_name_of(names_in(frame[3]), field), "field")
    demand(is_number(most), "most")
    return lot_above(frame, field, most), quotient_of(frame[1] * most, 2)
