"""Wishes: tests with names that come, change and go; the least lot is kept settled for all that stand."""

from wholefaces.checks import demand
from wholefaces.errors import NotStanding
from wholefaces.extremes import demand_passing
from wholefaces.frames import is_frame, is_test_of
from wholefaces.goodness import all_of
from wholefaces.meshclasses import Mesh
from wholefaces.mustclasses import Musts
from wholefaces.reaching import forced_chain, table_of
from wholefaces.settling import kept_made, reasons_told, settled_made
from wholefaces.wordnames import is_word_name


class Wishes:
    """The wishes that stand, and the reasons for which points are in the lot."""

    def __init__(self, frame):
        demand(is_frame(frame), "frame")
        self._frame = frame
        self._standing = ()
        self._musts = Musts(frame, all_of(()))
        self._reasons = ()
        self._last = (0, 0)

    def _settle(self, standing):
        """Makes these wishes, pairs (name, test), the ones that stand."""
        musts = Musts(self._frame, all_of(tuple([test for _, test in standing])))
        table, sources = table_of(musts), musts.sources()
        demand_passing(table, sources)
        kept = kept_made(table, sources, self._reasons)
        settled = settled_made(table, sources, kept)
        self._last = (len(self._reasons) - len(kept), len(settled) - len(kept))
        self._standing = standing
        self._musts = musts
        self._reasons = reasons_told(table, settled)

    def _place(self, name):
        """The place of the wish with this name, which may be any value."""
        names = self.names()
        if name not in names:
            raise NotStanding(name)
        return names.index(name)

    def wish(self, name, test):
        """Adds a wish."""
        demand(is_word_name(name) and name not in self.names(), "name")
        demand(is_test_of(self._frame, test), "test")
        self._settle(self._standing + ((name, test),))

    def change(self, name, test):
        """Gives the wish with this name another test."""
        demand(is_test_of(self._frame, test), "test")
        k = self._place(name)
        self._settle(self._standing[:k] + ((name, test),) + self._standing[k + 1:])

    def drop(self, name):
        """Takes the wish with this name away."""
        k = self._place(name)
        self._settle(self._standing[:k] + self._standing[k + 1:])

    def names(self):
        """The names of the wishes, in the sequence of coming."""
        return tuple([name for name, _ in self._standing])

    def test_of(self, name):
        """The test of the wish with this name."""
        return self._standing[self._place(name)][1]

    def lot(self):
        """The forced points."""
        return tuple([point for point, _ in self._reasons])

    def mesh(self):
        """The mesh of the lot."""
        return Mesh(self._frame[0], self.lot())

    def reasons(self):
        """The reasons: pairs (point, before)."""
        return self._reasons

    def last(self):
        """How many reasons were not kept last, and how many points of the lot had no kept one."""
        return self._last

    def why(self, point):
        """The chain that forces a point of the lot."""
        demand(self._musts.knows(point) and point in self.lot(), "point")
        return forced_chain(self._musts, point)
