"""Papers that show stairs, what checks them, and what lots with few blocks can be worth at most."""

from wholefaces.bestlots import best_made
from wholefaces.bestpapers import fault_of_best
from wholefaces.checks import demand
from wholefaces.errors import InvalidPaper
from wholefaces.extremes import demand_passing, is_passing
from wholefaces.kinds import is_number, is_quotient
from wholefaces.members import ring_in
from wholefaces.papers import is_triple
from wholefaces.quotients import less, plus, times
from wholefaces.reaching import reached_made, table_of
from wholefaces.stairs import NOUGHT, stairs_told, steps_made
from wholefaces.worths import demand_worths, value_made


def stair_paper(musts, worths):
    """The triples (from, lot, flow) of the stairs, the flow showing that the lot is best at the price from."""
    demand_worths(musts, worths)
    demand_passing(table_of(musts), musts.sources())
    return tuple([(price, lot, best_made(musts, worths, price)[3]) for price, lot in steps_made(musts, worths)])


def is_next_price(thing, price, k):
    """Whether any price may be the from of triple k of a paper, that of the triple ahead being one."""
    if not is_quotient(price):
        return False
    return price == NOUGHT if k == 0 else less(thing[k - 1][0], price)


def fault_of_stair(musts, worths, thing, k):
    """The word for the first fault of triple k of a paper, or None."""
    price, lot, flow = thing[k]
    if not is_next_price(thing, price, k):
        return "from"
    lots = [lot] if k == 0 else [lot, thing[k - 1][1]]
    if not is_passing(musts, lot) or any([point not in lots[-1] for point in lot]) or lot in lots[1:]:
        return "lot"
    refused = [one for one in lots if fault_of_best(musts, worths, price, (one, flow)) is not None]
    return "flow" if len(refused) > 0 else None


def lets_stairs(musts, worths, thing):
    """The stairs, which the thing, a tuple of triples (from, lot, flow), must show."""
    demand_worths(musts, worths)
    if not isinstance(thing, tuple) or len(thing) == 0 or not all([is_triple(triple) for triple in thing]):
        raise InvalidPaper("shape", -1)
    for k in range(len(thing)):
        fault = fault_of_stair(musts, worths, thing, k)
        if fault is not None:
            raise InvalidPaper(fault, k)
    if thing[-1][1] != reached_made(table_of(musts), musts.sources()):
        raise InvalidPaper("end", -1)
    return stairs_told([(price, lot) for price, lot, _ in thing])


def most_worth(musts, worths, many):
    """What lots that pass, and whose mesh has at most so many blocks, are at most worth by the stairs, or None."""
    demand_worths(musts, worths)
    demand(is_number(many), "many")
    table = table_of(musts)
    demand_passing(table, musts.sources())
    solid = musts.told()[0][0]
    more = many - len(solid[1])
    least = reached_made(table, musts.sources())
    if sum([len(ring_in(solid, point)) for point in least]) > more:
        return None
    found = None
    for price, lot in steps_made(musts, worths):
        worth = plus(value_made(solid, worths, price, lot), times(price, (more, 1)))
        if found is None or less(worth, found):
            found = worth
    return found
