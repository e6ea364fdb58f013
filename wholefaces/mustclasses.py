"""Musts: what the blocks that are bad ask of a lot, point by point, and why."""

from wholefaces.charts import BAR, Chart, bad_names, halves_names, is_bar, musts_table, sources_made
from wholefaces.checks import demand
from wholefaces.frames import demand_block, is_frame, is_test_of
from wholefaces.kinds import is_pair, is_point
from wholefaces.members import name_made, ring_in
from wholefaces.treeparts import is_block_name


class Musts:
    """The sources and the musts of all points of generations below deep, for a frame and a test."""

    def __init__(self, frame, test):
        demand(is_frame(frame), "frame")
        demand(is_test_of(frame, test), "test")
        chart = Chart(frame[0], frame[1])
        self._frame = frame
        self._test = test
        self._chart = chart
        self._bad_names = bad_names(frame, test, chart)
        self._sources = sources_made(chart, self._bad_names)
        self._table = musts_table(chart, self._bad_names)

    def told(self):
        """The pair of frame and test."""
        return self._frame, self._test

    def __eq__(self, other):
        """Whether the other one is a Musts of the same frame and test."""
        return isinstance(other, Musts) and self._frame == other._frame and self._test == other._test

    def bad(self, block):
        """Whether the block is bad."""
        generation = demand_block(self._frame, block)
        return name_made(self._frame[0], block, generation) in self._bad_names

    def is_bad(self, name):
        """Whether the block with this name, of a generation at most deep, is bad."""
        return name in self._bad_names

    def all_points(self):
        """The points of the solid of generations below deep, in order."""
        return tuple(list(self._table))

    def knows(self, thing):
        """Whether any thing is one of these points."""
        return is_point(self._frame[0][0], thing) and thing in self._table

    def knows_all(self, thing):
        """Whether any thing is a tuple of these points, in any sequence."""
        return isinstance(thing, tuple) and all([self.knows(point) for point in thing])

    def is_thing(self, thing):
        """Whether any thing is one of these points or the bar."""
        return self.knows(thing) or is_bar(thing)

    def sources(self):
        """The sources, in order."""
        return self._sources

    def of(self, point):
        """The musts of the point, in order."""
        demand(self.knows(point), "point")
        return self._table[point]

    def why_source(self, thing):
        """The first why, by names, that shows a source."""
        demand(self.is_thing(thing) and thing in self._sources, "thing")
        roots = [name for name, _ in self._chart.nodes if name[1] == "" and name in self._bad_names]
        names = [name for name in roots if self._chart.middles.get(name, BAR) == thing]
        return ("root", names[0])

    def why(self, point, thing):
        """The first why, by the ring's sequence, that shows a must of the point."""
        demand(self.knows(point), "point")
        demand(self.is_thing(thing) and thing in self._table[point], "thing")
        names = {block: name for name, block in self._chart.rings[point]}
        for block in ring_in(self._frame[0], point):
            for half in halves_names(names[block]):
                if half in self._bad_names and self._chart.middles.get(half, BAR) == thing:
                    return ("bad", half)
        return ("need",)

    def shows_source(self, why, thing):
        """Whether any why shows a point or the bar as a source."""
        if not is_pair(why) or why[0] != "root" or not is_block_name(why[1]):
            return False
        name = why[1]
        return name[1] == "" and name in self._bad_names and self._chart.middles.get(name, BAR) == thing

    def shows(self, why, point, thing):
        """Whether any why shows a point or the bar from a point."""
        if why == ("need",):
            return thing in [corner for _, block in self._chart.rings[point] for corner in block]
        if not is_pair(why) or why[0] != "bad" or not is_block_name(why[1]):
            return False
        name = why[1]
        if name not in self._bad_names or name[1] == "" or self._chart.middles.get(name, BAR) != thing:
            return False
        return (name[0], name[1][:-1]) in [one for one, _ in self._chart.rings[point]]
