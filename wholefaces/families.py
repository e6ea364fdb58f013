"""The blocks of one generation that come of a block."""

from wholefaces.blockparts import halves_made
from wholefaces.checks import demand
from wholefaces.halving import block_generation
from wholefaces.kinds import is_number, is_place
from wholefaces.weights import holds_made


def both_halves(blocks, generation):
    """The halves of all these blocks of one generation, in their sequence."""
    return [half for block in blocks for half in halves_made(block, generation)]


def is_later(space, own, thing):
    """Whether the thing is a generation from a block's own one to top."""
    return is_number(thing) and own <= thing <= space[0] * space[1]


def family_of(space, block, generation):
    """All blocks of this generation that come of the block, their paths ascending."""
    own = block_generation(space, block)
    demand(is_later(space, own, generation), "generation")
    family = [block]
    for now in range(own, generation):
        family = both_halves(family, now)
    return tuple(family)


def down_to(space, block, place, generation):
    """The first of the family of this generation that holds the place."""
    own = block_generation(space, block)
    demand(is_place(space, place) and holds_made(block, place), "place")
    demand(is_later(space, own, generation), "generation")
    for now in range(own, generation):
        low, high = halves_made(block, now)
        block = low if holds_made(low, place) else high
    return block
