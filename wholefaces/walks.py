"""Straight ways through a mesh: through which corners' hold they go, moment by moment."""

from wholefaces.checks import demand
from wholefaces.kinds import is_place
from wholefaces.locating import mesh_space
from wholefaces.places import between
from wholefaces.quotients import less, plus, quotient_of, rising, times
from wholefaces.weights import carrier_in, weights_made

START = (0, 1)
END = (1, 1)
HALF = (1, 2)


def held_moments(block, place, other):
    """The first and the last moment at which a block holds the way from place to other; None if it never does.

    Each weight goes evenly along the way, so it is below 0 ahead of a moment, or behind one, or throughout.
    """
    here, there = weights_made(block, place), weights_made(block, other)
    first, last = START, END
    for k in range(len(block)):
        begin, end = here[k] * there[-1], there[k] * here[-1]
        if begin < 0 and end < 0:
            return None
        if begin < 0:
            moment = quotient_of(begin, begin - end)
            first = moment if less(first, moment) else first
        elif end < 0:
            moment = quotient_of(begin, begin - end)
            last = moment if less(moment, last) else last
    return None if less(last, first) else (first, last)


def corners_at(space, spans, place, other, moment):
    """The corners of the carrier at a moment; None if no block holds the place there."""
    for block, first, last in spans:
        if not less(moment, first) and not less(last, moment):
            carrier = carrier_in(block, between(space, place, other, moment))
            return tuple([corner for corner, _ in carrier])
    return None


def joined_parts(parts):
    """The triples of neighbouring parts of a way, those with the same corners joined."""
    joined = []
    for first, last, corners in parts:
        if len(joined) > 0 and joined[-1][2] == corners:
            first = joined.pop()[0]
        joined.append((first, last, corners))
    return tuple(joined)


def walk_of(mesh, place, other):
    """The triples (from, to, corners) of the longest parts of the way with the same corners."""
    space = mesh_space(mesh)
    demand(is_place(space, place), "place")
    demand(is_place(space, other), "other")
    spans = []
    for block in mesh.blocks():
        span = held_moments(block, place, other)
        if span is not None:
            spans.append((block, span[0], span[1]))
    if place == other:
        return ((START, START, corners_at(space, spans, place, other, START)),)
    # Between two moments at which blocks begin and end to hold the way, its corners stay the same.
    moments = rising([START, END] + [first for _, first, _ in spans] + [last for _, _, last in spans])
    parts = [(START, START, corners_at(space, spans, place, other, START))]
    for k in range(1, len(moments)):
        first, last = moments[k - 1], moments[k]
        inside = times(HALF, plus(first, last))
        parts.append((first, last, corners_at(space, spans, place, other, inside)))
        parts.append((last, last, corners_at(space, spans, place, other, last)))
    return joined_parts(parts)
