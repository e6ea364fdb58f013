"""Solids: roots of a space, put together."""

from wholefaces.checks import demand
from wholefaces.errors import CutRoot, EmptySolid, NotUsable
from wholefaces.kinds import is_pair, is_row, is_space
from wholefaces.regions import demand_region, status_made
from wholefaces.roots import is_root, roots_made


def ascends(row):
    """Whether each one of a row is above the one ahead."""
    return all([row[i] < row[i + 1] for i in range(len(row) - 1)])


def is_solid(thing):
    """Whether the thing is a solid."""
    if not is_pair(thing) or not is_space(thing[0]):
        return False
    space, roots = thing
    if not isinstance(roots, tuple) or len(roots) == 0:
        return False
    return all([is_root(space, root) for root in roots]) and ascends(roots)


def solid_of(space, *roots):
    """The solid of these roots, in any sequence."""
    for k in range(len(roots)):
        if not is_root(space, roots[k]) or roots[k] in roots[:k]:
            raise NotUsable("roots", k)
    if len(roots) == 0:
        raise EmptySolid()
    return space, tuple(sorted(roots))


def are_cubes(space, thing):
    """Whether the thing is an ascending tuple of tuples of as many integers as there are directions."""
    if not isinstance(thing, tuple) or not all([is_row(space[0], cube) for cube in thing]):
        return False
    return ascends(thing)


def solid_from(space, cubes, regions, region):
    """The solid of the roots of the cubes that are in the region."""
    demand(are_cubes(space, cubes), "cubes")
    demand_region(space, regions, region)
    found = []
    for root in sorted([one for cube in cubes for one in roots_made(space, cube)]):
        status = status_made(regions, region, root, 0)
        if status == "cut":
            raise CutRoot(root)
        if status == "in":
            found.append(root)
    if len(found) == 0:
        raise EmptySolid()
    return space, tuple(found)
