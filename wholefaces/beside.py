"""What lies beside what in a mesh: across a side, at the border, round a corner."""

from wholefaces.borders import book_made
from wholefaces.checks import demand
from wholefaces.kinds import is_number, is_point
from wholefaces.locating import mesh_space, named_blocks
from wholefaces.members import is_name


def demand_block_of(mesh, name):
    """The block of the mesh with the parameter name; raises NotUsable if there is none."""
    names = mesh.block_names()
    demand(is_name(mesh.told()[0], name) and name in names, "name")
    return mesh.blocks()[names.index(name)]


def beside_of(mesh, name, corner):
    """The name of the other block with all corners of this one but the corner at this place; None if there is none."""
    block = demand_block_of(mesh, name)
    demand(is_number(corner) and corner < len(block), "corner")
    side = block[:corner] + block[corner + 1:]
    for other, body in named_blocks(mesh):
        if other != name and all([point in body for point in side]):
            return other
    return None


def border_of(mesh):
    """The pairs (side, name) of the sides that just one block has, ascending."""
    names = mesh.block_names()
    return tuple([(side, names[places[0]]) for side, places in book_made(mesh.blocks()) if len(places) == 1])


def round_point(mesh, point):
    """The names of the blocks with this corner, ascending."""
    demand(is_point(mesh_space(mesh), point) and point in mesh.corners(), "point")
    return tuple([name for name, block in named_blocks(mesh) if point in block])
