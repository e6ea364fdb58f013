"""How bodies meet: in whole common faces, or ill."""

from wholefaces.arrangements import all_parts
from wholefaces.checks import demand
from wholefaces.cuttings import box_round
from wholefaces.gaps import box_gap
from wholefaces.kinds import is_body
from wholefaces.measures import is_flat
from wholefaces.planes import are_spread, shared_place
from wholefaces.weights import holds_made


def fits_other(body, other):
    """Whether any other thing is a body of as many dims that is not flat."""
    return is_body((len(body) - 1, 0), other) and not is_flat(other)


def are_alike(thing):
    """Whether any thing is a tuple of bodies of one number of dims, flat or not."""
    if not isinstance(thing, tuple):
        return False
    return all([is_body((2, 0), body) for body in thing]) or all([is_body((3, 0), body) for body in thing])


def all_faces(body):
    """The faces of a body, those with fewer corners first."""
    return [face for many in range(1, len(body) + 1) for face in all_parts(body, many)]


def common_place(one, other):
    """The one place that the planes of the points share, or "none", or "many"."""
    demand(are_spread(2, one) or are_spread(3, one), "one")
    demand(are_spread(len(one[0]), other), "other")
    return shared_place(one, other)


def is_ill(body, other, place):
    """Whether a place in the planes of a face of each body is held by both, and is not a corner of both."""
    if place[-1] == 1 and place[:-1] in body and place[:-1] in other:
        return False
    # In its plane a face holds what the body holds: the weights of the other corners are nought there.
    return holds_made(body, place) and holds_made(other, place)


def first_ill(body, other):
    """The first place, by the faces of the bodies, at which they meet ill, or None."""
    if box_gap(box_round(body), box_round(other)) > 0:
        return None
    faces = all_faces(other)
    for face in all_faces(body):
        for against in faces:
            place = shared_place(face, against)
            if isinstance(place, tuple) and is_ill(body, other, place):
                return place
    return None


def ill_met(body, other):
    """The first place, by the faces of the bodies, at which they meet ill, or None."""
    demand(fits_other(body, other), "other")
    return first_ill(body, other)


def first_meeting(bodies):
    """What face_to_face tells of bodies of one number of dims."""
    for i in range(len(bodies)):
        if is_flat(bodies[i]):
            return i, i, None
    for i in range(len(bodies)):
        for j in range(i + 1, len(bodies)):
            if sorted(bodies[i]) == sorted(bodies[j]):
                return i, j, None
            place = first_ill(bodies[i], bodies[j])
            if place is not None:
                return i, j, place
    return None


def face_to_face(bodies):
    """The first flat body, or the first pair that has the same corners or meets ill, as a triple, or None."""
    demand(are_alike(bodies), "bodies")
    return first_meeting(bodies)
