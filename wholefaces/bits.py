"""Meshes told root by root: a 1 for each block that is halved, a 0 for each that is not."""

from wholefaces.checks import demand
from wholefaces.closing import first_missing
from wholefaces.errors import InvalidForm, InvalidText, NotClosed
from wholefaces.members import middle_named
from wholefaces.nodes import halved_by_points, top_of
from wholefaces.orders import in_order


def bits_of(mesh):
    """For each root the signs of all nodes that come of it, each ahead of its halves, the low half first."""
    solid, lot = mesh.told()
    halved = {name: True for name, _ in halved_by_points(solid, lot)}
    rows = [[] for _ in solid[1]]
    # A path stands ahead of all paths that go on from it, and these ahead of those of the high half.
    for name in sorted(list(halved) + list(mesh.block_names())):
        rows[name[0]].append("1" if name in halved else "0")
    return tuple(["".join(row) for row in rows])


def bits_from(text, at, top):
    """The pairs (path, place of its sign) for the bits of a root that stand here, and the place behind them."""
    found = []
    left = [""]
    while len(left) > 0:
        path = left.pop()
        if not text.startswith("0", at) and (len(path) == top or not text.startswith("1", at)):
            raise InvalidText(0, at)
        if text.startswith("1", at):
            left.extend([path + "1", path + "0"])
        found.append((path, at))
        at = at + 1
    return found, at


def lot_told(solid, halved):
    """The lot of the middles of these halved blocks; raises NotClosed if it is not closed."""
    lot = in_order(solid[0], tuple([middle_named(solid, name) for name in halved]))
    missing = first_missing(solid, lot)
    if missing is not None:
        raise NotClosed(missing[0], missing[1])
    return lot


def checked_lot(solid, nodes):
    """The lot that nodes tell: quadruples (name, whether halved, line and place of the sign).

    Raises NotClosed if the lot is not closed, InvalidForm for the first block that is whole though its middle is in it.
    """
    lot = lot_told(solid, [name for name, halved, _, _ in nodes if halved])
    there = {point: True for point in lot}
    top = top_of(solid)
    for name, halved, line, at in nodes:
        if not halved and len(name[1]) < top and middle_named(solid, name) in there:
            raise InvalidForm(line, at)
    return lot


def nodes_from(text, number, top):
    """The nodes of a root that its whole string of bits tells."""
    found, end = bits_from(text, 0, top)
    if end < len(text):
        raise InvalidText(0, end)
    return [((number, path), text[at] == "1", number, at) for path, at in found]


def lot_of_bits(solid, bits):
    """The lot whose mesh has these bits."""
    fits = isinstance(bits, tuple) and len(bits) == len(solid[1])
    demand(fits and all([isinstance(text, str) for text in bits]), "bits")
    nodes = []
    for number, text in enumerate(bits):
        try:
            row = nodes_from(text, number, top_of(solid))
        except InvalidText as wrong:
            raise InvalidForm(number, wrong.at) from None
        nodes.extend(row)
    return checked_lot(solid, nodes)
