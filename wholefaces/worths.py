"""Worths of points, and what lots are worth: in all, and less the price of the blocks that they add."""

from wholefaces.charts import Chart, halves_names
from wholefaces.checks import demand
from wholefaces.closing import is_closed_lot
from wholefaces.fieldvalues import field_value
from wholefaces.kinds import is_pair, is_quotient
from wholefaces.members import are_members, points_below, ring_in
from wholefaces.quantities import sum_made
from wholefaces.quotients import added, minus, times
from wholefaces.seats import point_generation
from wholefaces.solids import ascends
from wholefaces.treeparts import names_in, sum_fits
from wholefaces.wordnames import is_name_of


def are_pairs_in_order(space, thing, are_points):
    """Whether any thing is pairs (point, quotient), in order; are_points tells of a tuple whether it is such points."""
    if not isinstance(thing, tuple) or not all([is_pair(pair) and is_quotient(pair[1]) for pair in thing]):
        return False
    points = tuple([pair[0] for pair in thing])
    return are_points(points) and ascends([(point_generation(space, point), point) for point in points])


def demand_solid_worths(solid, worths):
    """Raises NotUsable unless these are worths of points of the solid."""
    demand(are_pairs_in_order(solid[0], worths, lambda points: are_members(solid, points)), "worths")


def demand_worths(musts, worths):
    """Raises NotUsable unless these are worths of points of generations below deep."""
    space = musts.told()[0][0][0]
    demand(are_pairs_in_order(space, worths, lambda points: musts.knows_all(points)), "worths")


def demand_price(price):
    """Raises NotUsable unless the price is a quotient of at least nought."""
    demand(is_quotient(price) and price[0] >= 0, "price")


def worth_made(worths, lot):
    """The worth of a lot."""
    there = {point: True for point in lot}
    return added([worth for point, worth in worths if point in there])


def value_made(solid, worths, price, lot):
    """The value of a lot at a price."""
    many = sum([len(ring_in(solid, point)) for point in lot])
    return minus(worth_made(worths, lot), times(price, (many, 1)))


def block_worths(frame, parts):
    """For each point of a generation below deep what the sum tells for its ring's halves, less what for its ring."""
    demand(sum_fits(frame[0][0][0], names_in(frame[3]), parts), "parts")
    chart = Chart(frame[0], frame[1])
    told = {name: sum_made(frame, parts, block, len(name[1])) for name, block in chart.nodes}
    worths = []
    for point, ring in chart.rings.items():
        blocks = added([told[name] for name, _ in ring])
        halves = added([told[half] for name, _ in ring for half in halves_names(name)])
        worths.append((point, minus(halves, blocks)))
    return tuple(worths)


def field_worths(frame, field):
    """For each point of a generation below deep the value of the field at it."""
    solid, deep, _, fields = frame
    demand(is_name_of(names_in(fields), field), "field")
    return tuple([(point, (field_value(fields, field, point), 1)) for point in points_below(solid, deep)])


def worth_of(solid, worths, lot):
    """The worth of the lot: that of its points, added."""
    demand_solid_worths(solid, worths)
    demand(is_closed_lot(solid, lot), "lot")
    return worth_made(worths, lot)


def value_of_lot(solid, worths, price, lot):
    """The worth of the lot, less the price times the number of all blocks of the rings of its points."""
    demand_solid_worths(solid, worths)
    demand_price(price)
    demand(is_closed_lot(solid, lot), "lot")
    return value_made(solid, worths, price, lot)
