"""Common divisors of rows of integers."""

from math import gcd


def common_divisor(numbers):
    """The greatest common divisor of a row of integers; 0 if all are 0."""
    found = 0
    for number in numbers:
        found = gcd(found, number)
    return found


def lowest_terms(numbers):
    """The row over its greatest common divisor, as a tuple; not all are 0."""
    divisor = common_divisor(numbers)
    return tuple([number // divisor for number in numbers])


def common_multiple(numbers):
    """The least common multiple of a row of integers above 0; 1 if there is none."""
    found = 1
    for number in numbers:
        found = found * number // gcd(found, number)
    return found
