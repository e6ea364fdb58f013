"""How far fields are from the straightened ones over a mesh, and meshes on which they are near enough."""

from wholefaces.checks import demand
from wholefaces.extremes import least_of
from wholefaces.fieldvalues import demand_field
from wholefaces.kinds import is_number, is_quotient
from wholefaces.locating import mesh_space, named_blocks
from wholefaces.mustclasses import Musts
from wholefaces.nodes import top_of
from wholefaces.quantities import error_made
from wholefaces.treeparts import names_in
from wholefaces.wordnames import is_name_of


def demand_deep(mesh, deep):
    """Raises NotUsable unless deep is a number from the greatest generation of the mesh's blocks to top."""
    least = max([len(path) for _, path in mesh.block_names()])
    demand(is_number(deep) and least <= deep <= top_of(mesh.told()[0]), "deep")


def errors_over(mesh, fields, field, deep):
    """The pairs (name, error) for all blocks of the mesh, names ascending."""
    demand_field(mesh_space(mesh)[0], fields, field)
    demand_deep(mesh, deep)
    frame = (mesh.told()[0], deep, (), fields)
    return tuple([(name, error_made(frame, field, block, len(name[1]))) for name, block in named_blocks(mesh)])


def nearest_lot(frame, field, tolerance):
    """The least lot that passes if just the blocks with an error of at most the tolerance are good."""
    demand(is_name_of(names_in(frame[3]), field), "field")
    demand(is_quotient(tolerance) and tolerance[0] >= 0, "tolerance")
    top, bottom = tolerance
    test = ("compare", "<=", ("sum", ((bottom, ("error", field)),)), ("sum", ((top, ("one",)),)))
    return least_of(Musts(frame, test))
