"""Skins: where a straightened field goes from at least c to below it, block by block."""

from wholefaces.borders import book_made
from wholefaces.checks import demand
from wholefaces.fieldvalues import demand_field, field_value
from wholefaces.kinds import is_integer, is_point
from wholefaces.locating import mesh_space, named_blocks
from wholefaces.orders import in_order
from wholefaces.places import between
from wholefaces.quotients import quotient_of


def demand_skin(mesh, fields, field, c):
    """Raises NotUsable unless the parameters behind the mesh are fields, one of their names, and an integer."""
    demand_field(mesh_space(mesh)[0], fields, field)
    demand(is_integer(c), "c")


def inner_corners(mesh, fields, field, c):
    """The inner corners of the mesh, in order: a dict of True."""
    return {corner: True for corner in mesh.corners() if field_value(fields, field, corner) >= c}


def is_mixed(corners, inner):
    """Whether some of the corners are inner and some are not."""
    many = len([corner for corner in corners if corner in inner])
    return 0 < many < len(corners)


def skin_row(corners, inner):
    """The row of a block, whose corners, in order, are inner and outer."""
    high = [corner for corner in corners if corner in inner]
    low = [corner for corner in corners if corner not in inner]
    if len(high) == 2 and len(low) == 2:
        return (high[0], low[0]), (high[0], low[1]), (high[1], low[1]), (high[1], low[0])
    return tuple([(one, other) for one in high for other in low])


def skin_of(mesh, fields, field, c):
    """The pairs (name, row) for the blocks of the mesh with inner and outer corners, names ascending."""
    demand_skin(mesh, fields, field, c)
    space = mesh_space(mesh)
    inner = inner_corners(mesh, fields, field, c)
    mixed = [(name, block) for name, block in named_blocks(mesh) if is_mixed(block, inner)]
    return tuple([(name, skin_row(in_order(space, block), inner)) for name, block in mixed])


def skin_sides(mesh, fields, field, c):
    """The pairs (side, how many blocks have it) for the sides with inner and outer corners, ascending."""
    demand_skin(mesh, fields, field, c)
    inner = inner_corners(mesh, fields, field, c)
    return tuple([(side, len(places)) for side, places in book_made(mesh.blocks()) if is_mixed(side, inner)])


def crossing_of(space, fields, field, c, inner, outer):
    """The place between an inner and an outer point at which the field, made straight, is c."""
    demand_field(space[0], fields, field)
    demand(is_integer(c), "c")
    demand(is_point(space, inner) and field_value(fields, field, inner) >= c, "inner")
    demand(is_point(space, outer) and field_value(fields, field, outer) < c, "outer")
    high, low = field_value(fields, field, inner), field_value(fields, field, outer)
    return between(space, inner + (1,), outer + (1,), quotient_of(high - c, high - low))
