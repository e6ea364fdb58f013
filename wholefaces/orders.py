"""The order of points: by their generation, those of one generation ascending."""

from wholefaces.checks import demand
from wholefaces.kinds import are_points, is_point
from wholefaces.seats import point_generation


def key_of(space, point):
    """The pair (generation, point)."""
    demand(is_point(space, point), "point")
    return point_generation(space, point), point


def in_order(space, points):
    """The points, each once, in order."""
    demand(are_points(space, points), "points")
    keys = sorted(set([(point_generation(space, point), point) for point in points]))
    return tuple([point for _, point in keys])
