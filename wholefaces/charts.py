"""Charts: the blocks of a solid of generations at most deep, and how its points hang together; musts made of these."""

from wholefaces.blockparts import block_middle
from wholefaces.goodness import test_holds
from wholefaces.kinds import is_new
from wholefaces.nodes import nodes_upto
from wholefaces.orders import in_order

# What stands behind all points: the end of a chain that no lot can go along.
BAR = "bar"


class Chart:
    """All blocks of generations at most deep, and the points that they have as their middles."""

    def __init__(self, solid, deep):
        self.space = solid[0]
        self.deep = deep
        self.nodes = nodes_upto(solid, deep)
        self.middles = {name: block_middle(block, len(name[1])) for name, block in self.nodes if len(name[1]) < deep}
        self.rings = {point: [] for point in in_order(self.space, tuple(list(self.middles.values())))}
        for name, block in self.nodes:
            if name in self.middles:
                self.rings[self.middles[name]].append((name, block))


def is_bar(thing):
    """Whether any thing is the bar."""
    return thing == BAR


def halves_names(name):
    """The names of the low and the high half."""
    number, path = name
    return [(number, path + "0"), (number, path + "1")]


def bad_names(frame, test, chart):
    """The names of the blocks of a chart of the frame of which the test is not true: a dict of True."""
    return {name: True for name, block in chart.nodes if not test_holds(frame, test, name, block)}


def ordered_things(table, things):
    """The things, each once, in order: that of the table's points, then the bar."""
    order = list(table) + [BAR]
    places = {thing: k for k, thing in enumerate(order)}
    return tuple([order[k] for k in sorted(set([places[thing] for thing in things]))])


def sources_made(chart, bad):
    """The sources, these names being those of the bad blocks."""
    roots = [name for name, _ in chart.nodes if name[1] == "" and name in bad]
    return ordered_things(chart.rings, [chart.middles.get(name, BAR) for name in roots])


def musts_made(chart, bad, point):
    """The musts of a point, these names being those of the bad blocks; in any sequence, also twice."""
    ring = chart.rings[point]
    needs = [corner for _, block in ring for corner in block if is_new(chart.space, corner)]
    halves = [half for name, _ in ring for half in halves_names(name) if half in bad]
    return needs + [chart.middles.get(half, BAR) for half in halves]


def musts_table(chart, bad):
    """The musts of all points, in order, these names being those of the bad blocks: a dict, its points in order."""
    order = list(chart.rings) + [BAR]
    places = {thing: k for k, thing in enumerate(order)}
    table = {}
    for point in chart.rings:
        musts = sorted(set([places[thing] for thing in musts_made(chart, bad, point)]))
        table[point] = tuple([order[k] for k in musts])
    return table
