"""Flows: amounts that free points give to their musts, and what each free point has then."""

from wholefaces.charts import BAR
from wholefaces.checks import demand
from wholefaces.extremes import leading_to
from wholefaces.kinds import is_quotient
from wholefaces.members import ring_in
from wholefaces.papers import is_triple
from wholefaces.quotients import minus, plus, times
from wholefaces.reaching import found_from, table_of
from wholefaces.solids import ascends
from wholefaces.worths import demand_price, demand_worths

NOUGHT = (0, 1)


def free_points(musts):
    """The points neither forced nor barred, in order: a dict of True."""
    table = table_of(musts)
    forced = found_from(table, musts.sources())
    barred = leading_to(table, (BAR,))
    return {point: True for point in table if point not in forced and point not in barred}


def flow_fits(musts, thing):
    """Whether any thing is a flow."""
    if not isinstance(thing, tuple) or not all([is_triple(triple) for triple in thing]):
        return False
    free = free_points(musts)
    for point, must, amount in thing:
        if not musts.knows(point) or not musts.knows(must) or not is_quotient(amount) or amount[0] <= 0:
            return False
        if point not in free or must not in free or must not in musts.of(point):
            return False
    # Pairs that ascend are told once each, so their amounts do not count.
    return ascends([(point, must) for point, must, _ in thing])


def owns_before(musts, worths, price):
    """For each free point, in order, its worth less the price of its ring: a dict."""
    solid = musts.told()[0][0]
    known = {point: worth for point, worth in worths}
    owns = {}
    for point in free_points(musts):
        costs = times(price, (len(ring_in(solid, point)), 1))
        owns[point] = minus(known.get(point, NOUGHT), costs)
    return owns


def owns_made(musts, worths, price, flow):
    """For each free point, in order, what it has of its own with the flow: a dict."""
    owns = owns_before(musts, worths, price)
    for point, must, amount in flow:
        owns[point] = minus(owns[point], amount)
        owns[must] = plus(owns[must], amount)
    return owns


def is_flow(musts, thing):
    """Whether any thing is a flow."""
    return flow_fits(musts, thing)


def own_table(musts, worths, price, flow):
    """The pairs (point, own) for all free points, in order."""
    demand_worths(musts, worths)
    demand_price(price)
    demand(flow_fits(musts, flow), "flow")
    return tuple(list(owns_made(musts, worths, price, flow).items()))
