"""What the tests share: how parameters are checked, and oracles made straight from the definitions."""

from fractions import Fraction
from itertools import permutations, product

from wholefaces.errors import InvalidText, NotUsable

PLANE = (2, 2)
R0, R1 = ((0, 0), (0, 4), (4, 4)), ((0, 0), (4, 0), (4, 4))
SQUARE = (PLANE, (R0, R1))
PAIR = (PLANE, (R0, R1, ((8, 0), (4, 0), (4, 4)), ((8, 0), (8, 4), (4, 4))))
CUBE = ((3, 1), (
    ((0, 0, 0), (0, 0, 2), (0, 2, 2), (2, 2, 2)), ((0, 0, 0), (0, 0, 2), (2, 0, 2), (2, 2, 2)),
    ((0, 0, 0), (0, 2, 0), (0, 2, 2), (2, 2, 2)), ((0, 0, 0), (0, 2, 0), (2, 2, 0), (2, 2, 2)),
    ((0, 0, 0), (2, 0, 0), (2, 0, 2), (2, 2, 2)), ((0, 0, 0), (2, 0, 0), (2, 2, 0), (2, 2, 2))))
LOW, TINY = ((0, 0), (4, 0), (2, 2)), ((2, 0), (2, 2), (3, 1))

# What is wrong for each kind of parameter; points and places are of the plane.
ODDS = (None, True, "a", [], [0, 1], ("x",), ((), ()), {"a": 1})
WRONG_INTEGERS = (None, True, False, "1", [1], (1,), ())
WRONG_NUMBERS = WRONG_INTEGERS + (-1,)
WRONG_QUOTIENTS = (None, True, 1, "1/2", [1, 2], (1,), (1, 2, 3), (2, 4), (0, 2), (1, 0), (1, -2), (True, 2), (1, True),
                   (1, "2"), ((1, 2), 3))
WRONG_POINTS = (None, True, 1, "(1, 1)", [1, 1], (), (1,), (1, 1, 1), (1, True), (False, 1), (1, None), ((1, 1),),
                ("1", 1), (1, [1]))
WRONG_PLACES = (None, False, 1, "(1, 1)", [1, 1, 1], (), (1, 1), (1, 1, 1, 1), (1, 1, True), (1, 1, 0), (1, 1, -1),
                (2, 4, 2), (0, 0, 2), (True, 1, 1), (1, "1", 1))
WRONG_BLOCKS = (None, True, 0, "r0", [(0, 0), (4, 0), (2, 2)], (), ((0, 0), (4, 0)), LOW + ((1, 1),),
                ((0, 0), (4, 0), [2, 2]), ((0, 0), (4, 0), (2, True)), ((4, 0), (0, 0), (2, 2)),
                ((0, 0), (0, 0), (0, 0)), ((0, 0), (4, 0), (2, 1)), ((0, 0), (1, 1), (2, 2)), ((0, 0), (8, 0), (8, 8)))
WRONG_TEXTS = (None, True, 5, ["all"], ("all",), b"all")
WRONG_NAMES = (None, True, "a", ["a"], ("A",), ("all",), ("a", 1), ("abcdefghijklm",), ("",), ("a.b",), ("1a",),
               (("a",),), ("a ",))


def deep(thing, many):
    """The thing in so many tuples and lists."""
    for k in range(many):
        thing = (thing,) if k % 2 == 0 else [thing]
    return thing


def check_parameters(case, function, good, wrong):
    """Checks the parameters of a function.

    good are pairs (name, value) in the sequence of the parameters, wrong a dict from names to wrong values; the
    parameters that it has not are passed in as such. By name in another sequence the call is the same; the first
    wrong parameter is told, alone or with later ones.
    """
    expected = function(*[value for _, value in good])
    case.assertEqual(function(**dict(reversed(good))), expected)
    case.assertEqual(function(**dict(good)), expected)
    names = [name for name, _ in good if name in wrong]
    for k, name in enumerate(names):
        for value in wrong[name]:
            demand_not_usable(case, function, {**dict(good), name: value}, name)
        for later in names[k + 1:]:
            told = {**dict(good), name: wrong[name][0], later: wrong[later][0]}
            demand_not_usable(case, function, told, name)
            told = {**dict(good), name: wrong[name][-1], later: wrong[later][-1]}
            demand_not_usable(case, function, told, name)


def demand_not_usable(case, function, told, word):
    """Checks that the call raises NotUsable(word, -1)."""
    with case.subTest(function=function.__name__, told=told):
        with case.assertRaises(NotUsable) as caught:
            function(**told)
        case.assertEqual((caught.exception.word, caught.exception.at), (word, -1))


def check_wrong_text(case, call, text, at, line=0):
    """Checks that the call, passed the text, raises InvalidText(line, at)."""
    with case.subTest(text=text):
        with case.assertRaises(InvalidText) as caught:
            call(text)
        case.assertEqual((caught.exception.line, caught.exception.at), (line, at))


def fractions_of(place):
    """The numbers of a place as fractions."""
    return [Fraction(number, place[-1]) for number in place[:-1]]


def pair_of(fraction):
    """The quotient of a fraction."""
    return fraction.numerator, fraction.denominator


def oracle_roots(space, cube):
    """The roots of a cube, by [6]."""
    dims, rounds = space
    unit = 2 ** rounds
    roots = []
    for order in permutations(range(dims)):
        at = [unit * c if c % 2 == 0 else unit * (c + 1) for c in cube]
        walk = [tuple(at)]
        for i in order:
            at[i] += unit if cube[i] % 2 == 0 else -unit
            walk.append(tuple(at))
        roots.append(tuple(walk))
    return sorted(roots)


def oracle_halves(dims, block, generation):
    """The low and the high half, by [6]."""
    k = dims - generation % dims
    middle = tuple((a + b) // 2 for a, b in zip(block[0], block[k]))
    low = block[:k] + (middle,) + block[k + 1:]
    high = block[1:k + 1] + (middle,) + block[k + 1:]
    return low, high


def oracle_blocks(space, cubes, most=None):
    """All blocks that come of these cubes: a dict from each to (generation, root, path, parent)."""
    dims, rounds = space
    most = dims * rounds if most is None else most
    found = {}
    row = [(root, 0, root, "", None) for cube in cubes for root in oracle_roots(space, cube)]
    while row:
        later = []
        for block, generation, root, path, parent in row:
            found[block] = (generation, root, path, parent)
            if generation < most:
                halves = oracle_halves(dims, block, generation)
                later += [(half, generation + 1, root, path + "01"[k], block) for k, half in enumerate(halves)]
        row = later
    return found


def oracle_generation(space, point):
    """The generation of a point, by [4]."""
    dims, rounds = space
    unit = 2 ** rounds
    if all(number % unit == 0 for number in point):
        return -1
    grain = max(2 ** k for k in range(rounds) if all(number % 2 ** k == 0 for number in point))
    many = sum((number // grain) % 2 for number in point)
    level = [k for k in range(rounds + 1) if unit // 2 ** k == 2 * grain][0]
    return dims * level + dims - many


def oracle_weights(body, place):
    """The weights as fractions, by elimination."""
    dims = len(body) - 1
    rows = [[Fraction(corner[i]) for corner in body] + [fractions_of(place)[i]] for i in range(dims)]
    rows.append([Fraction(1)] * (dims + 2))
    for k in range(dims + 1):
        pivot = [i for i in range(k, dims + 1) if rows[i][k] != 0][0]
        rows[k], rows[pivot] = rows[pivot], rows[k]
        rows[k] = [x / rows[k][k] for x in rows[k]]
        for i in range(dims + 1):
            if i != k:
                rows[i] = [a - rows[i][k] * b for a, b in zip(rows[i], rows[k])]
    return [row[-1] for row in rows]


def grid(dims, low, high):
    """All points with numbers from low to high."""
    return list(product(range(low, high + 1), repeat=dims))
