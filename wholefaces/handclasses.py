"""Hands: each has some of the roots, knows points, and tells the others of them by letters."""

from wholefaces.charts import Chart, bad_names, halves_names, ordered_things
from wholefaces.checks import demand
from wholefaces.errors import NoDeed
from wholefaces.frames import is_frame, is_test_of
from wholefaces.kinds import is_number


def are_owners(solid, thing):
    """Whether any thing is a tuple of numbers, one for each root."""
    if not isinstance(thing, tuple) or len(thing) != len(solid[1]):
        return False
    return all([is_number(hand) for hand in thing])


def demand_place(place, many):
    """Raises NoDeed unless the place, any value, is a number below how many there are."""
    if not is_number(place) or place >= many:
        raise NoDeed(place)


class Hands:
    """What each hand knows, and the letters that are under way."""

    def __init__(self, frame, test, owners):
        demand(is_frame(frame), "frame")
        demand(is_test_of(frame, test), "test")
        demand(are_owners(frame[0], owners), "owners")
        self._frame = frame
        self._test = test
        self._chart = Chart(frame[0], frame[1])
        self._bad_names = bad_names(frame, test, self._chart)
        self._owners = owners
        self._known = [{} for _ in range(max(owners) + 1)]
        self._letters = []

    def told(self):
        """The triple (frame, test, owners)."""
        return self._frame, self._test, self._owners

    def is_hand(self, thing):
        """Whether any thing is one of the hands."""
        return is_number(thing) and thing < len(self._known)

    def _demand_hand(self, hand):
        """Raises NotUsable unless there is such a hand."""
        demand(self.is_hand(hand), "hand")

    def _own_ring(self, hand, point):
        """The pairs (name, block) of a hand's own blocks in the ring of a point."""
        return [(name, block) for name, block in self._chart.rings[point] if self._owners[name[0]] == hand]

    def _own_bad(self, hand):
        """The names of the bad roots that a hand has."""
        roots = [(number, "") for number in range(len(self._owners)) if self._owners[number] == hand]
        return [name for name in roots if name in self._bad_names]

    def _bad_halves(self, hand, point):
        """The names of the bad halves of a hand's own blocks in the ring of a point."""
        halves = [half for name, _ in self._own_ring(hand, point) for half in halves_names(name)]
        return [half for half in halves if half in self._bad_names]

    def _asked(self, hand):
        """The points that a hand's bad roots and the points that it knows ask for, in order."""
        rings = self._chart.rings
        names = self._own_bad(hand) + [half for point in self._known[hand] for half in self._bad_halves(hand, point)]
        middles = [self._chart.middles[name] for name in names if name in self._chart.middles]
        blocks = [block for point in self._known[hand] for _, block in self._own_ring(hand, point)]
        return ordered_things(rings, middles + [corner for block in blocks for corner in block if corner in rings])

    def _holders(self, point):
        """The hands that have a root that holds a point, ascending."""
        # A root that holds a point has a block with it as its middle.
        return sorted(set([self._owners[name[0]] for name, _ in self._chart.rings[point]]))

    def _tell(self, hand, point):
        """A hand tells a point to each other one that has a root that holds it."""
        self._letters.extend([(other, point) for other in self._holders(point) if other != hand])

    def known(self, hand):
        """The points that the hand knows, in the sequence of coming."""
        self._demand_hand(hand)
        return tuple(list(self._known[hand]))

    def waiting(self, hand):
        """The points that wait for the hand, in order."""
        self._demand_hand(hand)
        return tuple([point for point in self._asked(hand) if point not in self._known[hand]])

    def learn(self, hand, place):
        """The hand knows the waiting point at this place, and tells it; it is returned."""
        waiting = self.waiting(hand)
        demand_place(place, len(waiting))
        self._known[hand][waiting[place]] = True
        self._tell(hand, waiting[place])
        return waiting[place]

    def letters(self):
        """The letters: pairs (hand, point), in the sequence of writing."""
        return tuple(self._letters)

    def bring(self, place):
        """Takes the letter away; its hand knows its point."""
        demand_place(place, len(self._letters))
        hand, point = self._letters.pop(place)
        # A point that is known already keeps its place in the sequence of coming.
        self._known[hand][point] = True

    def lose(self, place):
        """Takes the letter away."""
        demand_place(place, len(self._letters))
        self._letters.pop(place)

    def double(self, place):
        """Writes the letter again."""
        demand_place(place, len(self._letters))
        self._letters.append(self._letters[place])

    def resend(self, hand):
        """The hand tells all that it knows, in this sequence."""
        for point in self.known(hand):
            self._tell(hand, point)

    def fall(self, hand, many):
        """The hand keeps the first many of the points that it knows alone."""
        self._demand_hand(hand)
        demand(is_number(many), "many")
        self._known[hand] = {point: True for point in list(self._known[hand])[:many]}

    def refuses(self, hand):
        """Whether the hand knows that no lot passes."""
        self._demand_hand(hand)
        deep = self._chart.deep
        if deep == 0:
            return len(self._own_bad(hand)) > 0
        return any([len(half[1]) == deep for point in self._known[hand] for half in self._bad_halves(hand, point)])

    def calm(self):
        """Whether no point waits for any hand, and each knows what some hand knows and its roots hold."""
        hands = range(len(self._known))
        if any([len(self.waiting(hand)) > 0 for hand in hands]):
            return False
        told = [(other, point) for hand in hands for point in self._known[hand] for other in self._holders(point)]
        return all([point in self._known[other] for other, point in told])
