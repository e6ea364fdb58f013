"""Work: points come one by one, each because a source or a point that is there asks for it."""

from wholefaces.charts import BAR, ordered_things
from wholefaces.checks import demand
from wholefaces.errors import NoDeed
from wholefaces.kinds import is_number
from wholefaces.mustclasses import Musts
from wholefaces.reaching import table_of


class Work:
    """What is there so far, and what waits."""

    def __init__(self, musts):
        demand(isinstance(musts, Musts), "musts")
        self._table = table_of(musts)
        self._sources = musts.sources()
        self._there = {}

    def _asked(self):
        """All things that are asked for, in order: the sources, and the musts of the points that are there."""
        musts = [must for point in self._there for must in self._table[point]]
        return ordered_things(self._table, list(self._sources) + musts)

    def waiting(self):
        """The points that wait, in order."""
        return tuple([thing for thing in self._asked() if thing != BAR and thing not in self._there])

    def do(self, place):
        """The point at this place of those that wait comes, and is returned."""
        waiting = self.waiting()
        if not is_number(place) or place >= len(waiting):
            raise NoDeed(place)
        self._there[waiting[place]] = True
        return waiting[place]

    def jobs(self):
        """How many points came."""
        return len(self._there)

    def lot(self):
        """The points that came, in order."""
        return ordered_things(self._table, list(self._there))

    def done(self):
        """Whether no point waits."""
        return len(self.waiting()) == 0

    def refuses(self):
        """Whether the bar is asked for."""
        return BAR in self._asked()
