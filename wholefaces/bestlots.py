"""The best lots at a price, and a flow that shows it."""

from wholefaces.extremes import demand_passing
from wholefaces.flows import owns_before
from wholefaces.nets import Net
from wholefaces.quotients import quotient_of, scaled
from wholefaces.reaching import found_from, table_of
from wholefaces.worths import demand_price, demand_worths, value_made


def net_of(musts, owns):
    """The net in which free points with something give it to their musts with debts, filled.

    The knots are the free points, then start and goal. Returned are the net, the triples (point, must, arc) and what
    stands for 1 in it.
    """
    tops, bottom = scaled(list(owns.values()))
    places = {point: k for k, point in enumerate(owns)}
    start, goal = len(owns), len(owns) + 1
    net = Net(len(owns) + 2)
    for k, top in enumerate(tops):
        if top > 0:
            net.add_arc(start, k, top)
        elif top < 0:
            net.add_arc(k, goal, -top)
    # Between points there is room for all that there is.
    room = sum([abs(top) for top in tops])
    arcs = []
    for point in owns:
        for must in musts.of(point):
            if must in places:
                arcs.append((point, must, net.add_arc(places[point], places[must], room)))
    net.fill(start, goal)
    return net, arcs, bottom


def best_made(musts, worths, price):
    """The quadruple of best_of, some lot passing.

    A point to which more could be sent is worth having in each best lot; one from which more could be sent to a debt
    in none.
    """
    solid = musts.told()[0][0]
    table = table_of(musts)
    owns = owns_before(musts, worths, price)
    net, arcs, bottom = net_of(musts, owns)
    worthy = net.depths_from(len(owns))
    owing = net.knots_before(len(owns) + 1)
    forced = found_from(table, musts.sources())
    always = {point: True for k, point in enumerate(owns) if k in worthy}
    never = {point: True for k, point in enumerate(owns) if k in owing}
    least = tuple([point for point in table if point in forced or point in always])
    greatest = tuple([point for point in table if point in forced or (point in owns and point not in never)])
    flow = [(point, must, quotient_of(net.sent(arc), bottom)) for point, must, arc in arcs if net.sent(arc) > 0]
    return least, greatest, value_made(solid, worths, price, least), tuple(sorted(flow))


def best_of(musts, worths, price):
    """The least and the greatest of the best lots at the price, their value, and a flow that lets_best accepts."""
    demand_worths(musts, worths)
    demand_price(price)
    demand_passing(table_of(musts), musts.sources())
    return best_made(musts, worths, price)
