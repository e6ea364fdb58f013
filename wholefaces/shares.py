"""How much of a body, or of a mesh, has a straight value of at least c."""

from wholefaces.checks import demand
from wholefaces.fieldvalues import field_value
from wholefaces.kinds import is_quotient
from wholefaces.measures import measure_of
from wholefaces.quotients import added, minus, plus, quotient_of, scaled, times
from wholefaces.skins import demand_skin

WHOLE = (1, 1)
NOTHING = (0, 1)


def share_made(gaps):
    """The part of a body's measure where a value is at least c; the gaps tell how far it is above c at the corners."""
    if min(gaps) >= 0:
        return WHOLE
    if max(gaps) <= 0:
        return NOTHING
    # The edge from the lowest to the highest corner is cut where the gap is 0; both parts have this cut as a corner.
    i, j = gaps.index(min(gaps)), gaps.index(max(gaps))
    moment = quotient_of(gaps[j], gaps[j] - gaps[i])
    upper = times(moment, share_made(gaps[:i] + [0] + gaps[i + 1:]))
    lower = times(minus(WHOLE, moment), share_made(gaps[:j] + [0] + gaps[j + 1:]))
    return plus(upper, lower)


def share_above(quotients, c):
    """The part of a body's measure that the places with a straight value of at least c have."""
    rows = isinstance(quotients, tuple) and len(quotients) in (3, 4)
    demand(rows and all([is_quotient(quotient) for quotient in quotients]), "quotients")
    demand(is_quotient(c), "c")
    return share_made(scaled([minus(quotient, c) for quotient in quotients])[0])


def volume_above(mesh, fields, field, c):
    """The sum of measure times share above c over the blocks of the mesh, a quotient."""
    demand_skin(mesh, fields, field, c)
    gaps = {corner: field_value(fields, field, corner) - c for corner in mesh.corners()}
    shares = [(block, share_made([gaps[corner] for corner in block])) for block in mesh.blocks()]
    return added([times((measure_of(block), 1), share) for block, share in shares])
