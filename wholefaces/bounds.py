"""What separates the straight value at a place from that over finer meshes, and a bound of it."""

from wholefaces.blockparts import halves_made, tip_place
from wholefaces.carrying import surplus_made
from wholefaces.fieldvalues import demand_field
from wholefaces.fine import demand_deep
from wholefaces.locating import demand_held, mesh_space
from wholefaces.quotients import quotient_of
from wholefaces.weights import weights_made


def parts_at(mesh, fields, field, deep, place):
    """The triples (middle, surplus, weight) for the blocks halved on the way to the place, down to generation deep."""
    dims = mesh_space(mesh)[0]
    demand_field(dims, fields, field)
    demand_deep(mesh, deep)
    name, block = demand_held(mesh, place)
    parts = []
    for generation in range(len(name[1]), deep):
        k = tip_place(dims, generation)
        low, high = halves_made(block, generation)
        weights = weights_made(low, place)
        block = low
        if min(weights) < 0:
            weights = weights_made(high, place)
            block = high
        # In each half the middle stands where the last tip was.
        weight = quotient_of(weights[k], weights[-1])
        parts.append((block[k], surplus_made(fields, field, block[k]), weight))
    return tuple(parts)


def bound_at(mesh, fields, field, deep, place):
    """Half the sum of these surpluses, without their signs, a quotient."""
    parts = parts_at(mesh, fields, field, deep, place)
    return quotient_of(sum([abs(surplus) for _, surplus, _ in parts]), 2)
