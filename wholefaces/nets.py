"""Nets: numbered knots, and arcs between them along which as much is sent as goes."""


class Net:
    """Arcs with rooms. Arc k ^ 1 leads back along arc k: its room is what it can take back."""

    def __init__(self, many):
        self.leaving = [[] for _ in range(many)]
        self.heads = []
        self.rooms = []

    def add_arc(self, one, other, room):
        """Adds an arc with so much room from one knot to another one; its number is returned."""
        arc = len(self.heads)
        self.heads.extend([other, one])
        self.rooms.extend([room, 0])
        self.leaving[one].append(arc)
        self.leaving[other].append(arc + 1)
        return arc

    def sent(self, arc):
        """How much is sent along an arc."""
        return self.rooms[arc ^ 1]

    def depths_from(self, start):
        """All knots to which more could be sent from this one: a dict to the fewest arcs on a way there."""
        depths = {start: 0}
        row = [start]
        while len(row) > 0:
            later = []
            for knot in row:
                for arc in self.leaving[knot]:
                    if self.rooms[arc] > 0 and self.heads[arc] not in depths:
                        depths[self.heads[arc]] = depths[knot] + 1
                        later.append(self.heads[arc])
            row = later
        return depths

    def knots_before(self, goal):
        """All knots from which more could be sent to this one: a dict of True."""
        found = {goal: True}
        left = [goal]
        while len(left) > 0:
            knot = left.pop()
            for arc in self.leaving[knot]:
                if self.rooms[arc ^ 1] > 0 and self.heads[arc] not in found:
                    found[self.heads[arc]] = True
                    left.append(self.heads[arc])
        return found

    def send_along(self, road):
        """Sends along the arcs of a road as much as goes."""
        amount = min([self.rooms[arc] for arc in road])
        for arc in road:
            self.rooms[arc] = self.rooms[arc] - amount
            self.rooms[arc ^ 1] = self.rooms[arc ^ 1] + amount

    def fill_shortest(self, depths, start, goal):
        """Sends all that goes from start to goal along arcs on which the depth rises."""
        tried = [0 for _ in self.leaving]
        road = []
        while True:
            knot = self.heads[road[-1]] if len(road) > 0 else start
            if knot == goal:
                self.send_along(road)
                road = []
            elif tried[knot] < len(self.leaving[knot]):
                arc = self.leaving[knot][tried[knot]]
                if self.rooms[arc] > 0 and depths.get(self.heads[arc], 0) == depths[knot] + 1:
                    road.append(arc)
                else:
                    tried[knot] = tried[knot] + 1
            elif len(road) > 0:
                back = self.heads[road.pop() ^ 1]
                tried[back] = tried[back] + 1
            else:
                return

    def fill(self, start, goal):
        """Sends all that goes from start to goal."""
        depths = self.depths_from(start)
        while goal in depths:
            self.fill_shortest(depths, start, goal)
            depths = self.depths_from(start)
