"""The determinant of a body, and how its weights rise from place to place."""


def minus_rows(one, other):
    """The differences of two rows of integers."""
    return [a - b for a, b in zip(one, other)]


def dot(one, other):
    """The sum of the products of two rows of integers."""
    return sum([a * b for a, b in zip(one, other)])


def cross(one, other):
    """The row that is at right angles to two rows of three integers."""
    return [
        one[1] * other[2] - one[2] * other[1],
        one[2] * other[0] - one[0] * other[2],
        one[0] * other[1] - one[1] * other[0],
    ]


def rises_of(edges):
    """For each of the edges from the first corner a row: at right angles to all the others.

    The product of an edge and its own row is the determinant, the same for each.
    """
    if len(edges) == 2:
        one, other = edges
        return [[other[1], -other[0]], [-one[1], one[0]]]
    one, other, third = edges
    return [cross(other, third), cross(third, one), cross(one, other)]


def slopes_of(body):
    """The determinant of a body, and for each corner how its weight, times this, rises by directions."""
    edges = [minus_rows(corner, body[0]) for corner in body[1:]]
    rises = rises_of(edges)
    falls = [-sum([rise[i] for rise in rises]) for i in range(len(body[0]))]
    return dot(edges[0], rises[0]), [falls] + rises
