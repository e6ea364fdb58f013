"""Of which kind is a value: integers, numbers, quotients, spaces, points, places, bodies."""

from wholefaces.divisors import common_divisor


def is_integer(thing):
    """Whether the thing is an integer; bools are none."""
    return isinstance(thing, int) and not isinstance(thing, bool)


def is_number(thing):
    """Whether the thing is an integer of at least 0."""
    return is_integer(thing) and thing >= 0


def is_row(many, thing):
    """Whether the thing is a tuple of so many integers."""
    return isinstance(thing, tuple) and len(thing) == many and all([is_integer(number) for number in thing])


def is_pair(thing):
    """Whether the thing is a tuple of two values."""
    return isinstance(thing, tuple) and len(thing) == 2


def is_path(thing):
    """Whether the thing is a string of 0s and 1s."""
    return isinstance(thing, str) and all([figure in ("0", "1") for figure in thing])


def is_lowest(thing):
    """Whether a row of integers has a last one of at least 1 and no common divisor above 1."""
    return thing[-1] >= 1 and common_divisor(thing) == 1


def is_quotient(thing):
    """Whether the thing is a pair (top, bottom) in lowest terms, bottom at least 1."""
    return is_row(2, thing) and is_lowest(thing)


def is_space(thing):
    """Whether the thing is a pair (dims, rounds)."""
    return is_row(2, thing) and thing[0] in (2, 3) and thing[1] >= 0


def is_point(space, thing):
    """Whether the thing is a point of the space."""
    return is_row(space[0], thing)


def is_new(space, thing):
    """Whether the thing is a point of the space that is no base point."""
    unit = 1 << space[1]
    return is_point(space, thing) and any([number % unit != 0 for number in thing])


def is_place(space, thing):
    """Whether the thing is a place of the space, in lowest terms."""
    return is_row(space[0] + 1, thing) and is_lowest(thing)


def are_points(space, thing):
    """Whether the thing is a tuple of points of the space, as many as there may be."""
    return isinstance(thing, tuple) and all([is_point(space, point) for point in thing])


def is_body(space, thing):
    """Whether the thing is a body of the space, flat or not."""
    return isinstance(thing, tuple) and len(thing) == space[0] + 1 and are_points(space, thing)
