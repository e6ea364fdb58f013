"""Names of blocks, and which blocks there are from the roots on: rows of pairs (name, block).

Nothing is checked here: other files do this before they call these functions.
"""

from wholefaces.blockparts import block_middle, halves_made


def top_of(solid):
    """The top of the solid's space."""
    dims, rounds = solid[0]
    return dims * rounds


def named_roots(solid):
    """The roots with their names."""
    roots = solid[1]
    return [((number, ""), roots[number]) for number in range(len(roots))]


def named_halves(name, block):
    """The low and the high half of a block with this name, with their names."""
    number, path = name
    low, high = halves_made(block, len(path))
    return [((number, path + "0"), low), ((number, path + "1"), high)]


def nodes_upto(solid, generation):
    """All blocks of generations at most this one, names ascending."""
    row = named_roots(solid)
    nodes = list(row)
    for _ in range(generation):
        row = [half for name, block in row for half in named_halves(name, block)]
        nodes.extend(row)
    return sorted(nodes)


def split_nodes(solid, points, names):
    """The pair of the halved blocks and the leaves, names ascending.

    A block is halved if its middle is among points, or its name among names: dicts, one of which is empty.
    """
    top = top_of(solid)
    halved = []
    leaves = []
    left = [node for node in reversed(named_roots(solid))]
    while len(left) > 0:
        name, block = left.pop()
        generation = len(name[1])
        if name in names or (generation < top and block_middle(block, generation) in points):
            halved.append((name, block))
            low, high = named_halves(name, block)
            left.append(high)
            left.append(low)
        else:
            leaves.append((name, block))
    return halved, leaves


def halved_by_points(solid, points):
    """The blocks that the mesh of a closed lot halves."""
    return split_nodes(solid, {point: True for point in points}, {})[0]


def leaves_by_points(solid, points):
    """The blocks of the mesh of a closed lot."""
    return split_nodes(solid, {point: True for point in points}, {})[1]


def halved_by_names(solid, names):
    """The halved blocks of a cutting."""
    return split_nodes(solid, {}, {name: True for name in names})[0]


def leaves_by_names(solid, names):
    """The leaves of a cutting."""
    return split_nodes(solid, {}, {name: True for name in names})[1]


def middles_by_names(solid, names):
    """The middles of the halved blocks of a cutting, as often as they come."""
    return tuple([block_middle(block, len(name[1])) for name, block in halved_by_names(solid, names)])
