"""Into which pieces that part of a mesh falls where a straightened field is at least c."""

from wholefaces.locating import named_blocks
from wholefaces.reaching import found_from
from wholefaces.skins import demand_skin, inner_corners


def inner_links(mesh, inner):
    """For each inner corner all inner corners, also itself, of the blocks that have it."""
    links = {corner: [] for corner in inner}
    for block in mesh.blocks():
        corners = [corner for corner in block if corner in inner]
        for corner in corners:
            links[corner].extend(corners)
    return links


def pieces_above(mesh, fields, field, c):
    """The classes of inner corners, linked if one block has both: each in order, by their first corners in order."""
    demand_skin(mesh, fields, field, c)
    inner = inner_corners(mesh, fields, field, c)
    links = inner_links(mesh, inner)
    seen = {}
    pieces = []
    for corner in inner:
        if corner not in seen:
            found = found_from(links, [corner])
            seen.update({other: True for other in found})
            pieces.append(tuple([other for other in inner if other in found]))
    return tuple(pieces)


def inner_parts(mesh, fields, field, c):
    """For each of these classes the names, ascending, of the blocks with a corner in it."""
    nodes = named_blocks(mesh)
    parts = []
    for piece in pieces_above(mesh, fields, field, c):
        parts.append(tuple([name for name, block in nodes if any([corner in piece for corner in block])]))
    return tuple(parts)
