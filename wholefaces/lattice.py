"""Which mesh is finer than another one, and what two meshes have in common and together."""

from wholefaces.meshclasses import demand_other


def is_finer(mesh, other):
    """Whether each block of mesh lies in one of the other mesh."""
    demand_other(mesh, other)
    there = {point: True for point in mesh.told()[1]}
    return all([point in there for point in other.told()[1]])


def meet_of(mesh, other):
    """The mesh of the points that both lots have."""
    return mesh & other


def join_of(mesh, other):
    """The mesh of the points that at least one lot has."""
    return mesh | other
