"""How many blocks meshes have, in all, by generations and weighed."""

from wholefaces.checks import demand
from wholefaces.closing import is_closed_lot
from wholefaces.members import ring_in
from wholefaces.nodes import top_of


def many_of(solid, lot):
    """How many blocks the mesh of a closed lot has."""
    demand(is_closed_lot(solid, lot), "lot")
    # Each point halves the blocks of its ring, and so adds as many as these.
    return len(solid[1]) + sum([len(ring_in(solid, point)) for point in lot])


def by_generation(mesh):
    """How many blocks of the mesh have generation 0, 1 and so on, up to their greatest."""
    generations = [len(path) for _, path in mesh.block_names()]
    return tuple([generations.count(k) for k in range(max(generations) + 1)])


def weight_of(mesh):
    """The sum of 2 ** (top - generation) over the blocks of the mesh."""
    top = top_of(mesh.told()[0])
    return sum([1 << (top - len(path)) for _, path in mesh.block_names()])
