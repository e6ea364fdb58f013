"""The measures of bodies."""

from wholefaces.slopes import slopes_of


def measure_of(body):
    """The measure of a body, flat or not: times 2 in the plane, times 6 in space."""
    return abs(slopes_of(body)[0])


def is_flat(body):
    """Whether the measure of a body is 0."""
    return measure_of(body) == 0
