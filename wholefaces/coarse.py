"""The closed lots next to a cutting: the least one above it, the greatest one below it."""

from wholefaces.blockparts import block_middle
from wholefaces.checks import demand
from wholefaces.closing import closure_made, within_made
from wholefaces.cuttings import cutting_fits
from wholefaces.members import ring_in
from wholefaces.nodes import halved_by_names, middles_by_names
from wholefaces.orders import in_order


def over_made(solid, cutting):
    """The closure of the middles of a cutting."""
    return closure_made(solid, middles_by_names(solid, cutting))


def over_of(solid, cutting):
    """The least closed lot whose mesh is finer than the cutting."""
    demand(cutting_fits(solid, cutting), "cutting")
    return over_made(solid, cutting)


def under_of(solid, cutting):
    """The greatest closed lot than whose mesh the cutting is finer."""
    demand(cutting_fits(solid, cutting), "cutting")
    halved = {}
    for name, block in halved_by_names(solid, cutting):
        middle = block_middle(block, len(name[1]))
        halved[middle] = halved.get(middle, 0) + 1
    # A point of a closed lot halves all blocks of its ring, so the cutting has to halve them all.
    whole = [point for point, many in halved.items() if many == len(ring_in(solid, point))]
    return within_made(solid, in_order(solid[0], tuple(whole)))
