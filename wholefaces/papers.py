"""Papers that show the least lot, and refusals that show that there is none; and what checks them."""

from wholefaces.charts import BAR, is_bar
from wholefaces.checks import demand
from wholefaces.closing import first_missing
from wholefaces.errors import InvalidPaper
from wholefaces.extremes import bad_leaf, demand_passing
from wholefaces.frames import is_test_of
from wholefaces.kinds import is_integer, is_pair
from wholefaces.mustclasses import Musts
from wholefaces.orders import in_order
from wholefaces.reaching import forced_chain, forced_rounds, table_of

FROM_NONE = -1


def is_triple(thing):
    """Whether any thing is a tuple of three values."""
    return isinstance(thing, tuple) and len(thing) == 3


def paper_of(musts):
    """A triple (point, why, before) for each forced point, round by round."""
    demand_passing(table_of(musts), musts.sources())
    places = {}
    paper = []
    for row in forced_rounds(musts):
        for point, before in row:
            places[point] = len(paper)
            if before is None:
                paper.append((point, musts.why_source(point), FROM_NONE))
            else:
                paper.append((point, musts.why(before, point), places[before]))
    return tuple(paper)


def fault_of_triple(musts, thing, places, k):
    """The word for what is wrong with triple k of a paper, or None; places tells those of the points ahead."""
    point, why, before = thing[k]
    if not musts.knows(point):
        return "point"
    if point in places:
        return "twice"
    if not is_integer(before) or not FROM_NONE <= before < k:
        return "before"
    if before == FROM_NONE:
        shown = musts.shows_source(why, point)
    else:
        shown = musts.shows(why, thing[before][0], point)
    return None if shown else "why"


def lets_paper(frame, test, thing):
    """The lot of the points of the paper, which must show that it is the least one that passes."""
    demand(is_test_of(frame, test), "test")
    if not isinstance(thing, tuple) or not all([is_triple(triple) for triple in thing]):
        raise InvalidPaper("shape", -1)
    musts = Musts(frame, test)
    places = {}
    for k in range(len(thing)):
        fault = fault_of_triple(musts, thing, places, k)
        if fault is not None:
            raise InvalidPaper(fault, k)
        places[thing[k][0]] = k
    lot = in_order(frame[0][0], tuple(list(places)))
    if first_missing(frame[0], lot) is not None:
        raise InvalidPaper("open", -1)
    if bad_leaf(musts, lot) is not None:
        raise InvalidPaper("bad", -1)
    return lot


def refusal_of(musts):
    """A pair (thing, why) for each thing of the chain to the bar; None if some lot passes."""
    chain = forced_chain(musts, BAR)
    if chain is None:
        return None
    pairs = [(chain[0], musts.why_source(chain[0]))]
    for k in range(1, len(chain)):
        pairs.append((chain[k], musts.why(chain[k - 1], chain[k])))
    return tuple(pairs)


def fault_of_pair(musts, thing, k):
    """The word for what is wrong with pair k of a refusal, or None."""
    one, why = thing[k]
    if not (is_bar(one) if k + 1 == len(thing) else musts.knows(one)):
        return "thing"
    shown = musts.shows_source(why, one) if k == 0 else musts.shows(why, thing[k - 1][0], one)
    return None if shown else "why"


def lets_refusal(frame, test, thing):
    """How many pairs the thing has, which must show that no lot passes."""
    demand(is_test_of(frame, test), "test")
    if not isinstance(thing, tuple) or len(thing) == 0 or not all([is_pair(pair) for pair in thing]):
        raise InvalidPaper("shape", -1)
    musts = Musts(frame, test)
    for k in range(len(thing)):
        fault = fault_of_pair(musts, thing, k)
        if fault is not None:
            raise InvalidPaper(fault, k)
    return len(thing)
