"""What is reached from points, and what is forced: rounds of musts, and chains along them.

A table is a dict from each point, in order, to its musts; the bar has none.
"""

from wholefaces.charts import ordered_things
from wholefaces.checks import demand


def table_of(musts):
    """The musts of all points, as a table."""
    return {point: musts.of(point) for point in musts.all_points()}


def round_behind(table, seen, row):
    """The things, not seen so far, that are musts of a point of the row: a dict from each to the first such point."""
    found = {}
    for point in row:
        for must in table.get(point, ()):
            if must not in seen and must not in found:
                found[must] = point
    return found


def rounds_made(table, first):
    """All rounds from the first things on that are not empty: pairs (thing, its before), in order."""
    seen = {thing: True for thing in first}
    row = ordered_things(table, first)
    rounds = []
    befores = {thing: None for thing in row}
    while len(row) > 0:
        rounds.append(tuple([(thing, befores[thing]) for thing in row]))
        befores = round_behind(table, seen, row)
        seen.update({thing: True for thing in befores})
        row = ordered_things(table, list(befores))
    return tuple(rounds)


def befores_made(table, first):
    """All things reached, round by round: a dict from each to its before."""
    return {thing: before for row in rounds_made(table, first) for thing, before in row}


def found_from(edges, first):
    """All things reached from the first ones along the edges, in any sequence: a dict of True."""
    found = {}
    left = list(first)
    while len(left) > 0:
        thing = left.pop()
        if thing not in found:
            found[thing] = True
            left.extend(edges.get(thing, ()))
    return found


def reached_made(table, first):
    """The things reached, in order."""
    return ordered_things(table, list(found_from(table, first)))


def chain_made(table, first, thing):
    """The chain of befores from the first things to a thing, or None if it is not reached."""
    befores = befores_made(table, first)
    if thing not in befores:
        return None
    chain = [thing]
    while befores[chain[-1]] is not None:
        chain.append(befores[chain[-1]])
    return tuple(chain[::-1])


def rounds_from(musts, points):
    """All rounds from the points on that are not empty."""
    demand(musts.knows_all(points), "points")
    return rounds_made(table_of(musts), points)


def reached_from(musts, points):
    """The things reached from the points, in order."""
    demand(musts.knows_all(points), "points")
    return reached_made(table_of(musts), points)


def chain_from(musts, points, thing):
    """The chain from one of the points to the thing, None if it is not reached."""
    demand(musts.knows_all(points), "points")
    demand(musts.is_thing(thing), "thing")
    return chain_made(table_of(musts), points, thing)


def forced_rounds(musts):
    """All rounds from the sources on that are not empty."""
    return rounds_made(table_of(musts), musts.sources())


def forced_of(musts):
    """The forced things, in order."""
    return reached_made(table_of(musts), musts.sources())


def forced_chain(musts, thing):
    """The chain from a source to the thing, None if it is not forced."""
    demand(musts.is_thing(thing), "thing")
    return chain_made(table_of(musts), musts.sources(), thing)
