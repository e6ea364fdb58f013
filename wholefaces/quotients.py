"""Quotients: pairs (top, bottom) in lowest terms, and how one reckons with them."""

from wholefaces.checks import demand
from wholefaces.divisors import common_multiple, lowest_terms
from wholefaces.kinds import is_integer, is_quotient


def quotient_of(top, bottom):
    """The quotient for top / bottom."""
    demand(is_integer(top), "top")
    demand(is_integer(bottom) and bottom != 0, "bottom")
    if bottom < 0:
        return lowest_terms((-top, -bottom))
    return lowest_terms((top, bottom))


def demand_both(one, other):
    """Raises NotUsable for the first of the two that is no quotient."""
    demand(is_quotient(one), "one")
    demand(is_quotient(other), "other")


def plus(one, other):
    """The quotient one + other."""
    demand_both(one, other)
    return quotient_of(one[0] * other[1] + other[0] * one[1], one[1] * other[1])


def minus(one, other):
    """The quotient one - other."""
    demand_both(one, other)
    return quotient_of(one[0] * other[1] - other[0] * one[1], one[1] * other[1])


def times(one, other):
    """The quotient one * other."""
    demand_both(one, other)
    return quotient_of(one[0] * other[0], one[1] * other[1])


def over(one, other):
    """The quotient one / other; other is not nought."""
    demand_both(one, other)
    demand(other[0] != 0, "other")
    return quotient_of(one[0] * other[1], one[1] * other[0])


def less(one, other):
    """Whether one < other."""
    demand_both(one, other)
    return one[0] * other[1] < other[0] * one[1]


def added(quotients):
    """The sum of a row of quotients."""
    total = (0, 1)
    for quotient in quotients:
        total = plus(total, quotient)
    return total


def scaled(quotients):
    """The integers that the quotients are times one and the same bottom, and this bottom."""
    bottom = common_multiple([quotient[1] for quotient in quotients])
    return [top * (bottom // own) for top, own in quotients], bottom


def rising(quotients):
    """The quotients, each once, the lesser ones first."""
    tops, bottom = scaled(quotients)
    return [quotient_of(top, bottom) for top in sorted(set(tops))]
