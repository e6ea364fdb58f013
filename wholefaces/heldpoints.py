"""The points of some generations that a block holds."""

from wholefaces.blockparts import block_middle
from wholefaces.checks import demand
from wholefaces.families import both_halves
from wholefaces.halving import block_generation
from wholefaces.kinds import is_integer
from wholefaces.orders import in_order
from wholefaces.seats import point_generation


def held_points(space, block, low, high):
    """All points of generations from low on, below high, that the block holds, in order."""
    own = block_generation(space, block)
    demand(is_integer(low) and low >= -1, "low")
    demand(is_integer(high) and high <= space[0] * space[1], "high")
    # Of earlier generations a block holds its corners alone, of later ones the middles of what comes of it.
    points = [corner for corner in block if low <= point_generation(space, corner) < high]
    family = [block]
    for now in range(own, high):
        if now > own:
            family = both_halves(family, now - 1)
        if now >= low:
            points.extend([block_middle(half, now) for half in family])
    return in_order(space, tuple(points))
