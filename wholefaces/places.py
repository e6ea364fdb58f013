"""Places: rows of integers over a common bottom, in lowest terms."""

from wholefaces.checks import demand
from wholefaces.divisors import lowest_terms
from wholefaces.kinds import are_points, is_integer, is_place, is_point, is_quotient


def place_of(space, numbers, bottom):
    """The place whose number in direction i is numbers[i] / bottom."""
    demand(is_point(space, numbers), "numbers")
    demand(is_integer(bottom) and bottom >= 1, "bottom")
    return lowest_terms(numbers + (bottom,))


def point_place(space, point):
    """The place that the point is."""
    demand(is_point(space, point), "point")
    return point + (1,)


def between(space, place, other, moment):
    """The place at the moment of the straight way from place, at 0, to other, at 1."""
    demand(is_place(space, place), "place")
    demand(is_place(space, other), "other")
    demand(is_quotient(moment), "moment")
    top, bottom = moment
    here = other[-1] * (bottom - top)
    there = place[-1] * top
    numbers = [here * place[i] + there * other[i] for i in range(space[0])]
    return lowest_terms(numbers + [place[-1] * other[-1] * bottom])


def mean_place(space, points):
    """The place whose numbers are the means of those of the points."""
    demand(are_points(space, points) and len(points) > 0, "points")
    totals = [sum([point[i] for point in points]) for i in range(space[0])]
    return lowest_terms(totals + [len(points)])
