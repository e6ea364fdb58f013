"""What belongs to a solid: its points, their rings and needs, its blocks and their names."""

from wholefaces.blockparts import block_along, block_middle, found_generation, root_and_path
from wholefaces.checks import demand
from wholefaces.kinds import is_new, is_number, is_point
from wholefaces.nodes import nodes_upto, top_of
from wholefaces.orders import in_order
from wholefaces.rings import ring_made
from wholefaces.roots import root_round
from wholefaces.treeparts import is_block_name


def ring_in(solid, point):
    """The blocks of the whole ring of a new point that are the solid's; none if the point is not."""
    space, roots = solid
    return tuple([block for block in ring_made(point) if root_round(space, block) in roots])


def new_corners(space, blocks):
    """The new points among the corners of the blocks, each once, in order."""
    return in_order(space, tuple([corner for block in blocks for corner in block if is_new(space, corner)]))


def needs_in(solid, point):
    """The needs of a point of the solid."""
    return new_corners(solid[0], ring_in(solid, point))


def is_member(solid, thing):
    """Whether any thing is a point of the solid."""
    return is_new(solid[0], thing) and len(ring_in(solid, thing)) > 0


def are_members(solid, thing):
    """Whether any thing is a tuple of points of the solid, in any sequence."""
    return isinstance(thing, tuple) and all([is_member(solid, point) for point in thing])


def member_generation(solid, thing):
    """The generation of the block of the solid that any thing is, None if it is none."""
    space, roots = solid
    generation = found_generation(space, thing)
    if generation is None or root_round(space, thing) not in roots:
        return None
    return generation


def name_made(solid, block, generation):
    """The name of a block of the solid, of this generation."""
    space, roots = solid
    root, path = root_and_path(space, block, generation)
    return roots.index(root), path


def is_name(solid, thing):
    """Whether any thing is the name of a block of the solid."""
    return is_block_name(thing) and thing[0] < len(solid[1]) and len(thing[1]) <= top_of(solid)


def block_by_name(solid, name):
    """The block of the solid with this name."""
    number, path = name
    return block_along(solid[1][number], path)


def middle_named(solid, name):
    """The middle of the block with this name, of a generation below top."""
    return block_middle(block_by_name(solid, name), len(name[1]))


def demand_generation(solid, generation):
    """Raises NotUsable unless the generation is a number from 0 to top."""
    demand(is_number(generation) and generation <= top_of(solid), "generation")


def holds_point(solid, point):
    """Whether a point of the space is one of the solid."""
    demand(is_point(solid[0], point), "point")
    return is_member(solid, point)


def ring_of(solid, point):
    """The ring of a point of the solid."""
    demand(is_member(solid, point), "point")
    return ring_in(solid, point)


def needs_of(solid, point):
    """The needs of a point of the solid, in order."""
    demand(is_member(solid, point), "point")
    return needs_in(solid, point)


def name_of(solid, block):
    """The name of a block of the solid."""
    generation = member_generation(solid, block)
    demand(generation is not None, "block")
    return name_made(solid, block, generation)


def block_named(solid, name):
    """The block of the solid with this name."""
    demand(is_name(solid, name), "name")
    return block_by_name(solid, name)


def points_below(solid, generation):
    """The points of the solid of lesser generations, in order."""
    demand_generation(solid, generation)
    nodes = nodes_upto(solid, generation)
    middles = [block_middle(block, len(name[1])) for name, block in nodes if len(name[1]) < generation]
    return in_order(solid[0], tuple(middles))


def names_upto(solid, generation):
    """The names of the solid's blocks of generations at most this one, ascending."""
    demand_generation(solid, generation)
    return tuple([name for name, _ in nodes_upto(solid, generation)])
