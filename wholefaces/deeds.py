"""Single steps from mesh to mesh: one point more, or one less."""

from wholefaces.checks import demand
from wholefaces.errors import NoDeed, StillNeeded
from wholefaces.kinds import is_pair
from wholefaces.members import is_member, needs_in
from wholefaces.meshclasses import Mesh, demand_other
from wholefaces.orders import in_order


def needing(there, needs, point):
    """The first point there that has this one among its needs, or None; needs tells those of each."""
    for other in there:
        if point in needs[other]:
            return other
    return None


def is_deed(solid, thing):
    """Whether any thing is a deed."""
    return is_pair(thing) and thing[0] in ("halve", "join") and is_member(solid, thing[1])


def can_do(there, needs, deed):
    """Whether the step of this deed is not refused."""
    word, point = deed
    if word == "halve":
        return point not in there and all([need in there for need in needs[point]])
    return point in there and needing(there, needs, point) is None


def halve_step(mesh, point):
    """The mesh with one point more."""
    solid, lot = mesh.told()
    demand(is_member(solid, point) and point not in lot, "point")
    # The lot is closed, so what the new one lacks is a need of this point.
    return Mesh(solid, in_order(solid[0], lot + (point,)))


def join_step(mesh, point):
    """The mesh with one point less."""
    solid, lot = mesh.told()
    demand(is_member(solid, point) and point in lot, "point")
    other = needing(lot, {one: needs_in(solid, one) for one in lot}, point)
    if other is not None:
        raise StillNeeded(point, other)
    return Mesh(solid, tuple([one for one in lot if one != point]))


def deeds_between(mesh, other):
    """The deeds that lead from mesh to the other one: first all joins, then all halves."""
    demand_other(mesh, other)
    lot, goal = mesh.told()[1], other.told()[1]
    joins = [("join", point) for point in lot if point not in goal]
    return tuple(joins[::-1] + [("halve", point) for point in goal if point not in lot])


def done_deeds(mesh, deeds):
    """The mesh after the deeds, one after the other."""
    solid, lot = mesh.told()
    demand(isinstance(deeds, tuple) and all([is_deed(solid, deed) for deed in deeds]), "deeds")
    there = {point: True for point in lot}
    needs = {point: needs_in(solid, point) for point in lot + tuple([deed[1] for deed in deeds])}
    for k, deed in enumerate(deeds):
        if not can_do(there, needs, deed):
            raise NoDeed(k)
        if deed[0] == "halve":
            there[deed[1]] = True
        else:
            there.pop(deed[1])
    return Mesh(solid, in_order(solid[0], tuple(list(there))))
