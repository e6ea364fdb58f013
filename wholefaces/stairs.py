"""Stairs: which lot alone is best between which prices."""

from wholefaces.bestlots import best_made
from wholefaces.extremes import demand_passing
from wholefaces.quotients import minus, over
from wholefaces.reaching import reached_made, table_of
from wholefaces.worths import demand_worths, value_made

NOUGHT = (0, 1)


def turning_price(solid, worths, lot, later):
    """The price at which the value of a lot, the greater one, comes down to that of a later one, the lesser one."""
    gain = minus(value_made(solid, worths, NOUGHT, lot), value_made(solid, worths, NOUGHT, later))
    # At price 1 each block more than at price 0 costs 1, so the values tell how many there are.
    cost = minus(gain, minus(value_made(solid, worths, (1, 1), lot), value_made(solid, worths, (1, 1), later)))
    return over(gain, cost)


def steps_made(musts, worths):
    """The pairs (from, lot) of the stairs, some lot passing.

    Best at the price at which two lots are worth the same are either both of them, so that the one follows on the
    other, or lots between them, which are then looked at in the same way.
    """
    solid = musts.told()[0][0]
    steps = [(NOUGHT, best_made(musts, worths, NOUGHT)[0])]
    later = [reached_made(table_of(musts), musts.sources())]
    while len(later) > 0:
        lot = steps[-1][1]
        if later[-1] == lot:
            later.pop()
        else:
            price = turning_price(solid, worths, lot, later[-1])
            least, greatest, value, _ = best_made(musts, worths, price)
            if value == value_made(solid, worths, price, lot):
                steps.append((price, later.pop()))
            else:
                later.extend([least, greatest])
    return steps


def stairs_told(steps):
    """The triples (from, to, lot) of pairs (from, lot)."""
    ends = [price for price, _ in steps[1:]] + [None]
    return tuple([(price, end, lot) for (price, lot), end in zip(steps, ends)])


def stairs_of(musts, worths):
    """The triples (from, to, lot): between these prices the lot alone is best."""
    demand_worths(musts, worths)
    demand_passing(table_of(musts), musts.sources())
    return stairs_told(steps_made(musts, worths))
