"""The least and the greatest lot that passes."""

from wholefaces.charts import BAR
from wholefaces.checks import demand
from wholefaces.closing import is_closed_lot
from wholefaces.errors import Refused
from wholefaces.nodes import leaves_by_points
from wholefaces.reaching import chain_made, found_from, reached_made, table_of


def demand_passing(table, sources):
    """Raises Refused, with the chain to the bar, if no lot passes."""
    chain = chain_made(table, sources, BAR)
    if chain is not None:
        raise Refused(chain)


def users_of(table):
    """For each thing that is a must the points of which it is one: a dict."""
    users = {}
    for point, musts in table.items():
        for must in musts:
            users.setdefault(must, []).append(point)
    return users


def leading_to(table, goals):
    """The goals, and all points from which one of them is reached: a dict of True."""
    return found_from(users_of(table), goals)


def greatest_without(table, things):
    """All points from which none of the things is reached, in order."""
    barred = leading_to(table, things)
    return tuple([point for point in table if point not in barred])


def bad_leaf(musts, lot):
    """The name of the first block of the closed lot's mesh that is bad or of a generation above deep, or None."""
    solid, deep = musts.told()[0][:2]
    for name, _ in leaves_by_points(solid, lot):
        if len(name[1]) > deep or musts.is_bad(name):
            return name
    return None


def least_of(musts):
    """The least lot that passes."""
    table = table_of(musts)
    demand_passing(table, musts.sources())
    return reached_made(table, musts.sources())


def greatest_of(musts):
    """The greatest lot that passes."""
    table = table_of(musts)
    demand_passing(table, musts.sources())
    return greatest_without(table, (BAR,))


def first_bad(musts, lot):
    """The name of the first block, by names, of the lot's mesh that is bad or of a generation above deep, or None."""
    demand(is_closed_lot(musts.told()[0][0], lot), "lot")
    return bad_leaf(musts, lot)


def is_passing(musts, thing):
    """Whether any thing is a lot that passes."""
    return is_closed_lot(musts.told()[0][0], thing) and bad_leaf(musts, thing) is None
