"""The planes of a few points, and the places that two of them share."""

from wholefaces.divisors import lowest_terms
from wholefaces.kinds import is_row
from wholefaces.slopes import minus_rows


def cleared(row, pivot_row, column):
    """The row, a few times, less as much of the pivot row as leaves nought in the column."""
    factor, pivot = row[column], pivot_row[column]
    return [pivot * number - factor * other for number, other in zip(row, pivot_row)]


def pivot_below(rows, done, column):
    """The first row, from row done on, with something in the column; None if there is none."""
    for k in range(done, len(rows)):
        if rows[k][column] != 0:
            return k
    return None


def reduced(rows, columns):
    """The rows of integers, brought to pivots in the first so many columns, and how many pivots there are.

    The first rows have the pivots, each alone in its column.
    """
    rows = list(rows)
    done = 0
    for column in range(columns):
        k = pivot_below(rows, done, column)
        if k is not None:
            pivot_row = rows.pop(k)
            rows = [cleared(row, pivot_row, column) for row in rows]
            rows.insert(done, pivot_row)
            done = done + 1
    return rows, done


def are_spread(dims, thing):
    """Whether any thing is a tuple of points with so many numbers, none in the plane of the others."""
    if not isinstance(thing, tuple) or len(thing) == 0 or not all([is_row(dims, point) for point in thing]):
        return False
    ways = [minus_rows(point, thing[0]) for point in thing[1:]]
    return reduced(ways, dims)[1] == len(ways)


def shared_place(one, other):
    """What the planes of two rows of spread points share: "none", "many", or a place."""
    dims = len(one[0])
    ways = [minus_rows(point, one[0]) for point in one[1:]]
    against = ways + [minus_rows(other[0], point) for point in other[1:]]
    apart = minus_rows(other[0], one[0])
    many = len(against)
    rows, done = reduced([[way[i] for way in against] + [apart[i]] for i in range(dims)], many)
    if any([row[many] != 0 for row in rows[done:]]):
        return "none"
    if done < many:
        return "many"
    bottom = 1
    for k in range(many):
        bottom = bottom * abs(rows[k][k])
    steps = [rows[k][many] * (bottom // rows[k][k]) for k in range(len(ways))]
    numbers = [bottom * one[0][i] + sum([step * way[i] for step, way in zip(steps, ways)]) for i in range(dims)]
    return lowest_terms(numbers + [bottom])
