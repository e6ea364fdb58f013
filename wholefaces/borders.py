"""Rows of bodies: their sides, their border, the pieces into which they fall, their Euler number."""

from wholefaces.arrangements import all_parts
from wholefaces.checks import demand
from wholefaces.kinds import is_body
from wholefaces.measures import measure_of


def is_sound(dims, thing):
    """Whether any thing is a body of so many dims, its corners unlike."""
    return is_body((dims, 0), thing) and len(set(thing)) == len(thing)


def are_bodies(thing):
    """Whether any thing is a tuple of bodies of one dims, the corners of each unlike."""
    if not isinstance(thing, tuple):
        return False
    return all([is_sound(2, body) for body in thing]) or all([is_sound(3, body) for body in thing])


def faces_with(body, many):
    """The faces of a body with so many corners: the corners of each ascending."""
    return all_parts(tuple(sorted(body)), many)


def book_made(bodies):
    """The pairs (side, places of the bodies with it), ascending."""
    book = {}
    for place, body in enumerate(bodies):
        for side in faces_with(body, len(body) - 1):
            book.setdefault(side, []).append(place)
    return tuple(sorted([(side, tuple(places)) for side, places in book.items()]))


def linked_from(place, beside):
    """All places that are reached from one, going on to those beside, ascending."""
    found = {place: True}
    left = [place]
    while len(left) > 0:
        now = left.pop()
        for other in beside[now]:
            if other not in found:
                found[other] = True
                left.append(other)
    return tuple(sorted(found))


def side_book(bodies):
    """The ascending pairs (side, places): a side, and the places of the bodies with it."""
    demand(are_bodies(bodies), "bodies")
    return book_made(bodies)


def border_sides(bodies):
    """The ascending pairs (side, place) of the sides that one body alone has."""
    demand(are_bodies(bodies), "bodies")
    return tuple([(side, places[0]) for side, places in book_made(bodies) if len(places) == 1])


def pieces_of(bodies):
    """The pieces into which the bodies fall, linked by common sides: tuples of places, by their first ones."""
    demand(are_bodies(bodies), "bodies")
    beside = [[] for _ in bodies]
    for _, places in book_made(bodies):
        for place in places:
            beside[place].extend(places)
    seen = {}
    pieces = []
    for place in range(len(bodies)):
        if place not in seen:
            piece = linked_from(place, beside)
            seen.update({other: True for other in piece})
            pieces.append(piece)
    return tuple(pieces)


def euler_of(bodies):
    """The number of corners, less that of edges, with that of triangles, less that of tetrahedra."""
    demand(are_bodies(bodies), "bodies")
    total = 0
    sign = 1
    for many in range(1, 5):
        total = total + sign * len(set([face for body in bodies for face in faces_with(body, many)]))
        sign = -sign
    return total


def solid_measure(solid):
    """The sum of the measures of the solid's roots."""
    return sum([measure_of(root) for root in solid[1]])
