"""Clumps: points that come and go together; and the steps from one lot that passes to another one."""

from wholefaces.checks import demand
from wholefaces.extremes import is_passing, users_of
from wholefaces.reaching import table_of


def reached_within(edges, left, start):
    """All points reached from one along the edges without going out of left: a dict of True."""
    found = {start: True}
    row = [start]
    while len(row) > 0:
        point = row.pop()
        for other in edges.get(point, ()):
            if other in left and other not in found:
                found[other] = True
                row.append(other)
    return found


def clumps_made(table):
    """All clumps, by their first points, in order."""
    users = users_of(table)
    left = {point: True for point in table}
    clumps = []
    for point in table:
        if point in left:
            ahead = reached_within(table, left, point)
            behind = reached_within(users, left, point)
            clump = tuple([other for other in table if other in ahead and other in behind])
            clumps.append(clump)
            for other in clump:
                left.pop(other)
    return clumps


def is_asked(table, clumps, k):
    """Whether a point of clump k is a must of a point of another one of the clumps."""
    clump = clumps[k]
    others = clumps[:k] + clumps[k + 1:]
    return any([must in clump for other in others for point in other for must in table[point]])


def first_to_go(table, clumps):
    """The place of the first of the clumps of which no point is a must of a point of another one."""
    k = 0
    while is_asked(table, clumps, k):
        k = k + 1
    return k


def can_come(table, there, clump):
    """Whether the points of a clump have all their musts there or in it."""
    return all([must in there or must in clump for point in clump for must in table[point]])


def first_to_come(table, there, clumps):
    """The place of the first of the clumps whose points have all their musts there or in it."""
    k = 0
    while not can_come(table, there, clumps[k]):
        k = k + 1
    return k


def clumps_of(musts):
    """All clumps, by their first points, in order."""
    return tuple(clumps_made(table_of(musts)))


def steps_between(musts, lot, other):
    """The lots on the way from lot to the other one, by single clumps: first those that go, then those that come."""
    demand(is_passing(musts, lot), "lot")
    demand(is_passing(musts, other), "other")
    table = table_of(musts)
    clumps = clumps_made(table)
    going = [clump for clump in clumps if clump[0] in lot and clump[0] not in other]
    coming = [clump for clump in clumps if clump[0] in other and clump[0] not in lot]
    there = {point: True for point in lot}
    steps = [lot]
    while len(going) > 0:
        clump = going.pop(first_to_go(table, going))
        there = {point: True for point in there if point not in clump}
        steps.append(tuple([point for point in table if point in there]))
    while len(coming) > 0:
        clump = coming.pop(first_to_come(table, there, coming))
        there.update({point: True for point in clump})
        steps.append(tuple([point for point in table if point in there]))
    return tuple(steps)
