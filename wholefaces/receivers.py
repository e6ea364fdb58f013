"""Receivers: points come in any sequence, and what they show is a mesh at each moment."""

from wholefaces.checks import demand
from wholefaces.closing import within_made
from wholefaces.members import is_member, needs_in
from wholefaces.orders import in_order
from wholefaces.solids import is_solid


def sending_of(mesh):
    """The points of the mesh's lot: each comes behind its needs."""
    return mesh.told()[1]


class Receiver:
    """The points of a solid that came so far."""

    def __init__(self, solid):
        demand(is_solid(solid), "solid")
        self._solid = solid
        self._arrived = ()

    def came(self, point):
        """A point of the solid comes, perhaps again."""
        demand(is_member(self._solid, point), "point")
        self._arrived = in_order(self._solid[0], self._arrived + (point,))

    def points(self):
        """All points that came, in order, each once."""
        return self._arrived

    def shown(self):
        """The greatest closed lot of the points that came."""
        return within_made(self._solid, self._arrived)

    def wanted(self):
        """The needs of the points that came that did not come, in order, each once."""
        needs = [need for point in self._arrived for need in needs_in(self._solid, point)]
        return in_order(self._solid[0], tuple([need for need in needs if need not in self._arrived]))
