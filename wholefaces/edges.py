"""The edges of a block: when they get a point half-way, and which path leads there."""

from wholefaces.blockparts import half_point, tip_place
from wholefaces.checks import demand
from wholefaces.halving import block_generation
from wholefaces.kinds import is_number
from wholefaces.seats import point_generation


def demand_edge(dims, one, other):
    """Raises NotUsable unless the two are the places of two corners, one ahead of other."""
    demand(is_number(one) and one < dims, "one")
    demand(is_number(other) and one < other <= dims, "other")


def edge_generation(space, block, one, other):
    """The generation of the point half-way of two corners, None if half-way is no point."""
    first, last = block[one], block[other]
    if any([(a + b) % 2 != 0 for a, b in zip(first, last)]):
        return None
    return point_generation(space, half_point(first, last))


def half_way(space, block, one, other):
    """The generation of the point half-way of the corners one and other, None if half-way is no point."""
    block_generation(space, block)
    demand_edge(space[0], one, other)
    return edge_generation(space, block, one, other)


def road_to(space, block, one, other):
    """The figures that lead from the block to one with the corners one and other as its tips."""
    generation = block_generation(space, block)
    dims = space[0]
    demand_edge(dims, one, other)
    demand(edge_generation(space, block, one, other) is not None, "other")
    k = tip_place(dims, generation)
    if other <= k:
        return "0" * (k - other) + "1" * one
    if one <= k:
        return "0" * (k - one) + "1" * one + "0" * (dims - other)
    return "0" * (k + dims - other) + "1" * one
