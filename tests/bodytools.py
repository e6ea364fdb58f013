"""Bodies drawn at random, and what they share, by fractions."""

from fractions import Fraction
from itertools import combinations

from meshtools import lowest, place_weights, scaled_place
from tools import pair_of


def rank_of(rows):
    """The rank of rows of fractions."""
    rows, rank = [[Fraction(n) for n in row] for row in rows], 0
    for k in range(len(rows[0]) if rows else 0):
        pivot = [i for i in range(rank, len(rows)) if rows[i][k] != 0]
        if pivot:
            rows[rank], rows[pivot[0]] = rows[pivot[0]], rows[rank]
            for i in range(rank + 1, len(rows)):
                factor = rows[i][k] / rows[rank][k]
                rows[i] = [a - factor * b for a, b in zip(rows[i], rows[rank])]
            rank += 1
    return rank


def ways_of(points):
    """The differences of the points to the first one."""
    return [[a - b for a, b in zip(point, points[0])] for point in points[1:]]


def in_plane(points, numbers):
    """Whether a row of numbers lies in the plane of the points."""
    more = [a - b for a, b in zip(numbers, points[0])]
    return rank_of(ways_of(points) + [more]) == rank_of(ways_of(points))


def solve(columns, right):
    """Numbers with which the columns give the right side; the columns have one solution, with more rows than needed."""
    rows = [[Fraction(column[i]) for column in columns] + [Fraction(right[i])] for i in range(len(right))]
    for k in range(len(columns)):
        pivot = [i for i in range(k, len(rows)) if rows[i][k] != 0][0]
        rows[k], rows[pivot] = rows[pivot], rows[k]
        rows[k] = [x / rows[k][k] for x in rows[k]]
        for i in range(len(rows)):
            if i != k:
                rows[i] = [a - rows[i][k] * b for a, b in zip(rows[i], rows[k])]
    return [rows[k][-1] for k in range(len(columns))]


def common_oracle(one, other):
    """What the planes of two rows of points share."""
    ways, across = ways_of(one), ways_of(other)
    apart = [a - b for a, b in zip(other[0], one[0])]
    rank = rank_of(ways + across) if ways + across else 0
    if rank_of(ways + across + [apart]) > rank:
        return "none"
    if rank < len(ways) + len(across):
        return "many"
    numbers = solve(ways + [[-n for n in way] for way in across], apart) if ways + across else []
    place = [Fraction(n) for n in one[0]]
    for number, way in zip(numbers, ways):
        place = [a + number * b for a, b in zip(place, way)]
    assert in_plane(one, place) and in_plane(other, place)
    return scaled_place(place)


def fractions_in(points, place):
    """The fractions with which spread points give a place of their plane."""
    row = [Fraction(n, place[-1]) for n in place[:-1]]
    if len(points) == 1:
        return [Fraction(1)]
    numbers = solve(ways_of(points), [a - b for a, b in zip(row, points[0])])
    return [1 - sum(numbers)] + numbers


def faces_of(body):
    """The faces of a body, in the sequence of [76]."""
    return [tuple(body[i] for i in places) for many in range(1, len(body) + 1) for places in combinations(range(len(body)), many)]


def ill_oracle(body, other):
    """The first place at which two bodies meet ill."""
    for face in faces_of(body):
        for against in faces_of(other):
            place = common_oracle(face, against)
            if isinstance(place, str) or min(fractions_in(face, place)) < 0 or min(fractions_in(against, place)) < 0:
                continue
            if place[-1] != 1 or place[:-1] not in body or place[:-1] not in other:
                return place
    return None


def held_by(body, place):
    """Whether a body holds a place."""
    return min(place_weights(body, place)) >= 0


def shared_corners(body, other):
    """All places that a face of one body and a face of the other share alone and that both hold."""
    found = set()
    for face in faces_of(body):
        for against in faces_of(other):
            place = common_oracle(face, against)
            if not isinstance(place, str) and held_by(body, place) and held_by(other, place):
                found.add(place)
    return found


def section_length(bodies, at):
    """The length of what bodies of the plane share on the line of places with this first number."""
    low, high = None, None
    for body in bodies:
        numbers = [p[1] for p in body if p[0] == at]
        for p, q in combinations(body, 2):
            if min(p[0], q[0]) < at < max(p[0], q[0]):
                numbers.append(p[1] + (q[1] - p[1]) * Fraction(at - p[0]) / (q[0] - p[0]))
        if not numbers:
            return Fraction(0)
        low = min(numbers) if low is None else max(low, min(numbers))
        high = max(numbers) if high is None else min(high, max(numbers))
    return max(Fraction(0), Fraction(high) - low)


def clipped_polygon(points, p, q):
    """That part of a convex polygon that lies to the left of the line from p to q."""
    side = lambda r: (q[0] - p[0]) * (r[1] - p[1]) - (q[1] - p[1]) * (r[0] - p[0])
    kept = []
    for r, s in zip(points, points[1:] + points[:1]):
        if side(r) >= 0:
            kept.append(r)
        if side(r) * side(s) < 0:
            part = Fraction(side(r)) / (side(r) - side(s))
            kept.append(tuple(a + part * (b - a) for a, b in zip(r, s)))
    return kept


def hull(points):
    """The corners of the convex hull of points of the plane, turning left."""
    points = sorted(set(points))
    if len(points) < 3:
        return points
    rows = []
    for row in (points, points[::-1]):
        half = []
        for p in row:
            while len(half) > 1 and (half[-1][0] - half[-2][0]) * (p[1] - half[-2][1]) <= (half[-1][1] - half[-2][1]) * (p[0] - half[-2][0]):
                half.pop()
            half.append(p)
        rows += half[:-1]
    return rows


def section_area(bodies, at):
    """The area of what two bodies of space share in the plane of places with this first number."""
    polygons = []
    for body in bodies:
        points = [p[1:] for p in body if p[0] == at]
        for p, q in combinations(body, 2):
            if min(p[0], q[0]) < at < max(p[0], q[0]):
                part = Fraction(at - p[0]) / (q[0] - p[0])
                points.append(tuple(a + part * (b - a) for a, b in zip(p[1:], q[1:])))
        polygons.append(hull(points))
    one, other = polygons
    if len(one) < 3 or len(other) < 3:
        return Fraction(0)
    for p, q in zip(other, other[1:] + other[:1]):
        one = clipped_polygon(one, p, q)
    return abs(sum(p[0] * q[1] - p[1] * q[0] for p, q in zip(one, one[1:] + one[:1]))) / Fraction(2)


def part_oracle(body, other):
    """The measure of what two bodies share, by sections between all first numbers at which their form changes."""
    dims = len(body) - 1
    marks = sorted({Fraction(place[0], place[-1]) for place in shared_corners(body, other)})
    total = Fraction(0)
    for low, high in zip(marks, marks[1:]):
        step = (high - low) / 4
        if dims == 2:
            total += (high - low) * section_length((body, other), low + 2 * step)
        else:
            one, two, three = [section_area((body, other), low + k * step) for k in (1, 2, 3)]
            total += (high - low) / 3 * (2 * one - two + 2 * three)
    return pair_of(total * (2 if dims == 2 else 6))


def draw_body(rolls, dims, size=4):
    """A body that is not flat, with small numbers."""
    while True:
        body = tuple(tuple(rolls.randrange(-size, size + 1) for _ in range(dims)) for _ in range(dims + 1))
        if rank_of(ways_of(body)) == dims:
            return body


def draw_beside(rolls, body):
    """A body that shares corners with another one, or has corners on its faces."""
    dims = len(body) - 1
    while True:
        corners = rolls.sample(body, rolls.randrange(dims + 1))
        p, q = rolls.sample(body, 2)
        if rolls.randrange(3) == 0 and all((a + b) % 2 == 0 for a, b in zip(p, q)):
            corners = [corner for corner in corners if corner not in (p, q)] + [lowest([a + b for a, b in zip(p, q)], 2)[:-1]]
        while len(corners) < dims + 1:
            corners.append(tuple(rolls.randrange(-4, 5) for _ in range(dims)))
        rolls.shuffle(corners)
        if rank_of(ways_of(corners[:dims + 1])) == dims:
            return tuple(corners[:dims + 1])
