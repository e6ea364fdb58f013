"""The weights with which a body gives places, and the carriers of these."""

from wholefaces.checks import demand
from wholefaces.divisors import lowest_terms
from wholefaces.kinds import is_lowest, is_place, is_row
from wholefaces.quotients import quotient_of
from wholefaces.slopes import dot, minus_rows, slopes_of


def fits_body(body, place):
    """Whether the place is one of the body's dims."""
    return is_place((len(body) - 1, 0), place)


def weights_made(body, place):
    """The weights with which the body gives the place."""
    determinant, rises = slopes_of(body)
    bottom = place[-1]
    way = minus_rows(place[:-1], [bottom * number for number in body[0]])
    tops = [dot(way, rise) for rise in rises]
    tops[0] = tops[0] + bottom * determinant
    sign = 1 if determinant > 0 else -1
    return lowest_terms([sign * number for number in tops + [bottom * determinant]])


def blend_made(body, weights):
    """The place that the weights give."""
    dims = len(body) - 1
    tops = [sum([weight * corner[i] for weight, corner in zip(weights, body)]) for i in range(dims)]
    return lowest_terms(tops + [weights[-1]])


def holds_made(body, place):
    """Whether the body holds the place."""
    return min(weights_made(body, place)) >= 0


def weights_in(body, place):
    """The weights with which the body gives the place."""
    demand(fits_body(body, place), "place")
    return weights_made(body, place)


def are_weights(body, thing):
    """Whether the thing is a row of weights for the corners of the body."""
    return is_row(len(body) + 1, thing) and is_lowest(thing) and sum(thing[:-1]) == thing[-1]


def blend(body, weights):
    """The place that the weights give."""
    demand(are_weights(body, weights), "weights")
    return blend_made(body, weights)


def holds(body, place):
    """Whether the body holds the place."""
    demand(fits_body(body, place), "place")
    return holds_made(body, place)


def carrier_in(body, place):
    """The pairs of corner and weight of the corners that give the place, None if the body does not hold it."""
    demand(fits_body(body, place), "place")
    weights = weights_made(body, place)
    if min(weights) < 0:
        return None
    pairs = [(corner, quotient_of(weight, weights[-1])) for corner, weight in zip(body, weights) if weight > 0]
    return tuple(sorted(pairs))
