"""Reasons: which of them are kept when the musts change, and how new ones are settled on the kept ones."""

from wholefaces.charts import ordered_things
from wholefaces.checks import demand
from wholefaces.kinds import is_pair
from wholefaces.reaching import round_behind, table_of
from wholefaces.solids import ascends


def are_reasons(musts, thing):
    """Whether any thing is reasons: pairs (point, before), the points in order, each once."""
    if not isinstance(thing, tuple) or not all([is_pair(pair) and musts.knows(pair[0]) for pair in thing]):
        return False
    places = {point: k for k, point in enumerate(musts.all_points())}
    if not ascends([places[point] for point, _ in thing]):
        return False
    return all([before is None or musts.knows(before) for _, before in thing])


def kept_made(table, sources, reasons):
    """The kept ones of the reasons: a dict from point to before."""
    followers = {}
    for point, before in reasons:
        followers.setdefault(before, []).append(point)
    left = [point for point in followers.get(None, []) if point in sources]
    kept = {point: None for point in left}
    while len(left) > 0:
        before = left.pop()
        for point in followers.get(before, []):
            if point in table[before]:
                kept[point] = before
                left.append(point)
    return kept


def settled_made(table, sources, kept):
    """The settled reasons made of the kept ones: a dict from point to before, with the bar, too, if it is forced."""
    reasons = {point: before for point, before in kept.items()}
    waiting = round_behind(table, reasons, ordered_things(table, list(reasons)))
    waiting.update({source: None for source in sources if source not in reasons})
    while len(waiting) > 0:
        reasons.update(waiting)
        # The musts of older points have their reasons by now: only the newest ones can make others wait.
        waiting = round_behind(table, reasons, ordered_things(table, list(waiting)))
    return reasons


def reasons_told(table, reasons):
    """Reasons that are a dict, as a tuple of pairs, the points in order."""
    return tuple([(point, reasons[point]) for point in table if point in reasons])


def kept_reasons(musts, reasons):
    """The kept ones of the reasons."""
    demand(are_reasons(musts, reasons), "reasons")
    table = table_of(musts)
    return reasons_told(table, kept_made(table, musts.sources(), reasons))


def settled_reasons(musts, reasons):
    """The settled reasons made of the kept ones of the reasons."""
    demand(are_reasons(musts, reasons), "reasons")
    table = table_of(musts)
    kept = kept_made(table, musts.sources(), reasons)
    return reasons_told(table, settled_made(table, musts.sources(), kept))
