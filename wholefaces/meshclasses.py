"""Meshes: the blocks into which the points of a closed lot cut a solid."""

from wholefaces.checks import demand
from wholefaces.closing import first_missing, is_lot
from wholefaces.errors import NotClosed
from wholefaces.kinds import is_point
from wholefaces.members import is_member
from wholefaces.nodes import leaves_by_points
from wholefaces.orders import in_order
from wholefaces.solids import is_solid


class Mesh:
    """The mesh of a closed lot of a solid."""

    def __init__(self, solid, lot):
        demand(is_solid(solid), "solid")
        demand(is_lot(solid, lot), "lot")
        missing = first_missing(solid, lot)
        if missing is not None:
            raise NotClosed(missing[0], missing[1])
        self._solid = solid
        self._points = lot
        self._leaves = leaves_by_points(solid, lot)

    def told(self):
        """The pair of solid and lot."""
        return self._solid, self._points

    def blocks(self):
        """The blocks, their names ascending."""
        return tuple([block for _, block in self._leaves])

    def block_names(self):
        """The names of the blocks, ascending."""
        return tuple([name for name, _ in self._leaves])

    def corners(self):
        """The base points of the roots, then the points of the lot, both in order."""
        space, roots = self._solid
        return in_order(space, tuple([corner for root in roots for corner in root])) + self._points

    def has(self, point):
        """Whether the lot has a point of the solid."""
        demand(is_member(self._solid, point), "point")
        return point in self._points

    def __contains__(self, thing):
        """Whether any thing is a point of the lot."""
        return is_point(self._solid[0], thing) and thing in self._points

    def __len__(self):
        """How many blocks there are."""
        return len(self._leaves)

    def __eq__(self, other):
        """Whether the other one is a mesh of the same solid and lot."""
        return isinstance(other, Mesh) and self._solid == other._solid and self._points == other._points

    def __and__(self, other):
        """The mesh of the points that both lots have."""
        demand(isinstance(other, Mesh) and self._solid == other._solid, "other")
        return Mesh(self._solid, tuple([point for point in self._points if point in other._points]))

    def __or__(self, other):
        """The mesh of the points that at least one lot has."""
        demand(isinstance(other, Mesh) and self._solid == other._solid, "other")
        return Mesh(self._solid, in_order(self._solid[0], self._points + other._points))


def demand_other(mesh, other):
    """Raises NotUsable unless the parameter other is a mesh of the same solid."""
    demand(isinstance(other, Mesh) and other.told()[0] == mesh.told()[0], "other")
