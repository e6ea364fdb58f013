"""Blocks and those of which they come: roots, paths, parents, ancestors, own cubes."""

from wholefaces.arrangements import all_orders
from wholefaces.blockparts import block_along, body_generation, found_generation, low_round
from wholefaces.blockparts import parent_made, root_and_path, size_in
from wholefaces.checks import demand
from wholefaces.halving import block_generation
from wholefaces.kinds import is_body, is_number, is_path
from wholefaces.roots import is_root


def is_block(space, thing):
    """Whether the thing is a block of the space, its corners in their sequence."""
    return found_generation(space, thing) is not None


def root_of(space, block):
    """The root of which a block comes."""
    return root_and_path(space, block, block_generation(space, block))[0]


def path_of(space, block):
    """The path to a block from its root."""
    return root_and_path(space, block, block_generation(space, block))[1]


def block_at(space, root, path):
    """The block with this path from the root."""
    demand(is_root(space, root), "root")
    demand(is_path(path) and len(path) <= space[0] * space[1], "path")
    return block_along(root, path)


def parent_of(space, block):
    """The block of which this one is a half, None for a root."""
    generation = block_generation(space, block)
    if generation == 0:
        return None
    return parent_made(space, block, generation)[0]


def ancestor_made(space, block, generation, wanted):
    """The block of the wanted generation of which a block of this generation comes; itself if wanted is above it."""
    for above in range(generation - wanted):
        block = parent_made(space, block, generation - above)[0]
    return block


def ancestor_of(space, block, generation):
    """The block of this generation of which the block comes."""
    own = block_generation(space, block)
    demand(is_number(generation) and generation <= own, "generation")
    return ancestor_made(space, block, own, generation)


def comes_of(space, block, other):
    """Whether the block comes of the other one."""
    generation = block_generation(space, block)
    wanted = found_generation(space, other)
    demand(wanted is not None, "other")
    return ancestor_made(space, block, generation, wanted) == other


def ordered(space, body):
    """The block with the corners of the body in any sequence, or None."""
    demand(is_body(space, body), "body")
    for order in all_orders(body):
        if body_generation(space, order) is not None:
            return order
    return None


def own_cube(space, block):
    """The low corner of the cube of the block's level in which it lies."""
    return low_round(block, size_in(space, block_generation(space, block)))
