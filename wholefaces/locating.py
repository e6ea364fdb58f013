"""Where a place is in a mesh: the blocks that hold it, and its carrier."""

from wholefaces.checks import demand
from wholefaces.kinds import is_place
from wholefaces.weights import carrier_in, holds_made


def mesh_space(mesh):
    """The space of the mesh's solid."""
    return mesh.told()[0][0]


def named_blocks(mesh):
    """The blocks of the mesh with their names: pairs (name, block), names ascending."""
    return list(zip(mesh.block_names(), mesh.blocks()))


def holders_made(mesh, place):
    """The pairs (name, block) of the mesh's blocks that hold a place of its space."""
    return [(name, block) for name, block in named_blocks(mesh) if holds_made(block, place)]


def demand_held(mesh, place):
    """The first pair (name, block) that holds the parameter place; raises NotUsable if there is none."""
    demand(is_place(mesh_space(mesh), place), "place")
    found = holders_made(mesh, place)
    demand(len(found) > 0, "place")
    return found[0]


def holders_of(mesh, place):
    """The names of the mesh's blocks that hold the place, ascending."""
    demand(is_place(mesh_space(mesh), place), "place")
    return tuple([name for name, _ in holders_made(mesh, place)])


def first_holder(mesh, place):
    """The first of the names of the blocks that hold the place; None if there is none."""
    names = holders_of(mesh, place)
    return names[0] if len(names) > 0 else None


def carrier_of(mesh, place):
    """The carrier of the place in each block that holds it; None if there is none."""
    demand(is_place(mesh_space(mesh), place), "place")
    found = holders_made(mesh, place)
    return carrier_in(found[0][1], place) if len(found) > 0 else None
