"""What checks that a lot is best at a price."""

from wholefaces.errors import InvalidPaper
from wholefaces.extremes import is_passing
from wholefaces.flows import flow_fits, owns_made
from wholefaces.kinds import is_pair
from wholefaces.worths import demand_price, demand_worths, value_made


def fault_of_owns(owns, lot, flow):
    """The first fault of a lot that passes with a flow, the owns being those of all free points; or None."""
    for k, (point, own) in enumerate(owns.items()):
        if point in lot and own[0] < 0:
            return "low", k
        if point not in lot and own[0] > 0:
            return "high", k
    for k, (point, must, _) in enumerate(flow):
        if point not in lot and must in lot:
            return "into", k
    return None


def fault_of_best(musts, worths, price, thing):
    """The pair (word, at) for the first fault of a paper for a best lot, or None."""
    if not is_pair(thing):
        return "shape", -1
    lot, flow = thing
    if not is_passing(musts, lot):
        return "lot", -1
    if not flow_fits(musts, flow):
        return "flow", -1
    return fault_of_owns(owns_made(musts, worths, price, flow), lot, flow)


def lets_best(musts, worths, price, thing):
    """The value of the lot at the price, the thing being a pair (lot, flow) that must show that it is best."""
    demand_worths(musts, worths)
    demand_price(price)
    fault = fault_of_best(musts, worths, price, thing)
    if fault is not None:
        raise InvalidPaper(fault[0], fault[1])
    return value_made(musts.told()[0][0], worths, price, thing[0])
