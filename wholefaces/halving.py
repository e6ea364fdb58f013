"""The generation, the middle, the tips and the halves of a block."""

from wholefaces.blockparts import block_middle, found_generation, halves_made, tip_place
from wholefaces.checks import demand


def block_generation(space, block):
    """The generation of the parameter block; raises NotUsable if it is no block."""
    generation = found_generation(space, block)
    demand(generation is not None, "block")
    return generation


def halved_generation(space, block):
    """The generation of the parameter block; raises NotUsable if it is no block or cannot be halved."""
    generation = block_generation(space, block)
    demand(generation < space[0] * space[1], "block")
    return generation


def generation_in(space, block):
    """The generation of a block."""
    return block_generation(space, block)


def middle_of(space, block):
    """The middle of a block of a generation below top."""
    return block_middle(block, halved_generation(space, block))


def tips_in(space, block):
    """The pair of the first and the last tip of a block."""
    generation = block_generation(space, block)
    return block[0], block[tip_place(space[0], generation)]


def halves_of(space, block):
    """The pair of the low and the high half of a block of a generation below top."""
    return halves_made(block, halved_generation(space, block))
