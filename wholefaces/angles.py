"""The lengths of the edges of bodies, and the angles between their sides."""

from wholefaces.checks import demand
from wholefaces.halving import block_generation
from wholefaces.kinds import is_number
from wholefaces.quotients import quotient_of
from wholefaces.slopes import dot, minus_rows, slopes_of

# The sign and the square of the cosine, and the degrees of the angle.
DEGREES = (((1, (1, 2)), 45), ((1, (1, 4)), 60), ((0, (0, 1)), 90), ((-1, (1, 4)), 120))


def squared_length(one, other):
    """The square of the length of the edge between two points."""
    way = minus_rows(one, other)
    return dot(way, way)


def lengths_of(body):
    """The squares of the lengths of the edges of a body, rising, as often as they come."""
    many = len(body)
    return tuple(sorted([squared_length(body[i], body[j]) for j in range(many) for i in range(j)]))


def demand_sides(body, one, other):
    """Raises NotUsable unless the two are the places of two corners of the body."""
    demand(is_number(one) and one < len(body), "one")
    demand(is_number(other) and other < len(body) and other != one, "other")


def cosine_made(body, one, other):
    """The sign and the square of the cosine of the angle between the sides opposite two corners."""
    rises = slopes_of(body)[1]
    rise, fall = rises[one], rises[other]
    # A weight rises from its side into the body: the angle within is what is left to 180 degrees.
    product = -dot(rise, fall)
    square = quotient_of(product * product, dot(rise, rise) * dot(fall, fall))
    if product == 0:
        return 0, square
    return (1 if product > 0 else -1), square


def degrees_made(body, one, other):
    """The degrees of the angle between the sides opposite two corners, None if they are not one of DEGREES."""
    cosine = cosine_made(body, one, other)
    for pair, degrees in DEGREES:
        if cosine == pair:
            return degrees
    return None


def cosine_of(body, one, other):
    """The sign and the square of the cosine of the angle between the sides opposite one and other."""
    demand_sides(body, one, other)
    return cosine_made(body, one, other)


def degrees_of(body, one, other):
    """How many degrees the angle between the sides opposite one and other has, if 45, 60, 90 or 120."""
    demand_sides(body, one, other)
    return degrees_made(body, one, other)


def angles_of(space, block):
    """The degrees of the angles of all pairs of sides of a block, rising, as often as they come."""
    block_generation(space, block)
    return tuple(sorted([degrees_made(block, i, j) for j in range(len(block)) for i in range(j)]))
