"""Fields made straight over the blocks of a mesh."""

from wholefaces.fieldvalues import demand_field, field_value
from wholefaces.locating import demand_held, mesh_space
from wholefaces.quotients import added, times
from wholefaces.weights import carrier_in


def straight_at(mesh, fields, field, place):
    """The straight value at a place that a block of the mesh holds, a quotient."""
    demand_field(mesh_space(mesh)[0], fields, field)
    _, block = demand_held(mesh, place)
    carrier = carrier_in(block, place)
    return added([times(weight, (field_value(fields, field, corner), 1)) for corner, weight in carrier])
