"""Fields added up over meshes."""

from wholefaces.carrying import surplus_made
from wholefaces.fieldvalues import demand_field, field_value
from wholefaces.locating import mesh_space
from wholefaces.measures import measure_of
from wholefaces.members import ring_in
from wholefaces.quotients import added, quotient_of


def total_over(fields, field, bodies):
    """The sum of measure times mean of the values at the corners over the bodies, a quotient."""
    values = {corner: field_value(fields, field, corner) for body in bodies for corner in body}
    sums = [measure_of(body) * sum([values[corner] for corner in body]) for body in bodies]
    return added([quotient_of(total, len(body)) for total, body in zip(sums, bodies)])


def total_of(mesh, fields, field):
    """The sum of measure times mean of the values at the corners over the blocks of the mesh."""
    demand_field(mesh_space(mesh)[0], fields, field)
    return total_over(fields, field, mesh.blocks())


def total_by_points(mesh, fields, field):
    """The same sum over the roots, plus what each point of the lot brings by its surplus."""
    solid, lot = mesh.told()
    dims = solid[0][0]
    demand_field(dims, fields, field)
    gains = []
    for point in lot:
        measure = sum([measure_of(block) for block in ring_in(solid, point)])
        gains.append(quotient_of(surplus_made(fields, field, point) * measure, 2 * (dims + 1)))
    return added([total_over(fields, field, solid[1])] + gains)
