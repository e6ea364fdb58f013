"""Which mesh has given bodies as its blocks."""

from wholefaces.checks import demand
from wholefaces.closing import first_missing
from wholefaces.kinds import is_body
from wholefaces.members import member_generation, middle_named, name_made
from wholefaces.nodes import leaves_by_points
from wholefaces.orders import in_order
from wholefaces.parents import ordered


def known_name(solid, body):
    """The name of the block of the solid with the corners of a body, or None."""
    block = ordered(solid[0], body)
    if block is None:
        return None
    generation = member_generation(solid, block)
    return None if generation is None else name_made(solid, block, generation)


def middles_ahead(solid, names):
    """The middles of all blocks of which blocks with these names come, in order."""
    ahead = {(number, path[:k]): True for number, path in names for k in range(len(path))}
    return in_order(solid[0], tuple([middle_named(solid, name) for name in ahead]))


def known_lot(solid, bodies):
    """The closed lot whose mesh has just these bodies as its blocks, each once, or None."""
    demand(isinstance(bodies, tuple) and all([is_body(solid[0], body) for body in bodies]), "bodies")
    names = [known_name(solid, body) for body in bodies]
    if None in names:
        return None
    lot = middles_ahead(solid, names)
    if first_missing(solid, lot) is not None:
        return None
    leaves = [name for name, _ in leaves_by_points(solid, lot)]
    return lot if sorted(names) == leaves else None
