"""What bodies share, measured, and whether bodies fill a solid."""

from wholefaces.checks import demand
from wholefaces.cuttings import box_round
from wholefaces.divisors import common_multiple
from wholefaces.gaps import box_gap
from wholefaces.kinds import is_body
from wholefaces.measures import measure_of
from wholefaces.meeting import first_meeting, fits_other
from wholefaces.places import between
from wholefaces.quotients import added, less, minus, over, quotient_of
from wholefaces.weights import weights_made

NOUGHT = (0, 1)


def cut_parts(heights, places):
    """The parts of a body, as tuples of places, at which the heights over its corners are not below nought."""
    low = [k for k in range(len(heights)) if heights[k][0] < 0]
    high = [k for k in range(len(heights)) if heights[k][0] > 0]
    if len(low) == 0:
        return [places]
    if len(high) == 0:
        return []
    # The edge from a low to a high corner is cut where the height is nought: each part has the cut as a corner.
    i, j = low[0], high[0]
    moment = over(heights[i], minus(heights[i], heights[j]))
    cut = between((len(places) - 1, 0), places[i], places[j], moment)
    parts = []
    for k in (i, j):
        rest = cut_parts(heights[:k] + [NOUGHT] + heights[k + 1:], places[:k] + (cut,) + places[k + 1:])
        parts.extend(rest)
    return parts


def shared_parts(body, other):
    """The bodies, as tuples of places, into which falls what two bodies share."""
    parts = [tuple([corner + (1,) for corner in body])]
    for k in range(len(other)):
        inside = []
        for places in parts:
            weights = [weights_made(other, place) for place in places]
            inside.extend(cut_parts([quotient_of(row[k], row[-1]) for row in weights], places))
        parts = inside
    return parts


def measure_of_places(places):
    """The measure of a body whose corners are places, a quotient."""
    bottom = common_multiple([place[-1] for place in places])
    scale = 1
    for _ in range(len(places) - 1):
        scale = scale * bottom
    body = [tuple([number * (bottom // place[-1]) for number in place[:-1]]) for place in places]
    return quotient_of(measure_of(body), scale)


def shared_measure(body, other):
    """The measure of what two bodies share, a quotient."""
    if box_gap(box_round(body), box_round(other)) > 0:
        return NOUGHT
    return added([measure_of_places(places) for places in shared_parts(body, other)])


def part_in(body, other):
    """The measure of what body and the other one share, a quotient."""
    demand(fits_other(body, other), "other")
    return shared_measure(body, other)


def fills(solid, bodies):
    """The first reason why the bodies do not fill the solid, meeting in whole faces, as a pair, or None."""
    space, roots = solid
    demand(isinstance(bodies, tuple) and all([is_body(space, body) for body in bodies]), "bodies")
    meeting = first_meeting(bodies)
    if meeting is not None:
        return ("flat" if meeting[0] == meeting[1] else "meets"), meeting[0]
    measures = [measure_of(body) for body in bodies]
    for i in range(len(bodies)):
        if less(added([shared_measure(bodies[i], root) for root in roots]), (measures[i], 1)):
            return "outside", i
    if sum(measures) < sum([measure_of(root) for root in roots]):
        return "measure", -1
    return None
