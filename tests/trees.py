"""Trees made at random, but the same ones each time, for the tests."""

MARKS = ("<", "<=", "=", ">", ">=")


def random_point(rolls, dims):
    """A point near the origin."""
    return tuple(rolls.randrange(-9, 10) for _ in range(dims))


def random_region(rolls, dims, names, depth, unit=1):
    """A region; its walls are multiples of the unit."""
    kind = rolls.randrange(8 if depth > 0 else 4)
    if kind == 0 and names:
        return ("name", rolls.choice(names))
    if kind == 1:
        lows = tuple(unit * n for n in random_point(rolls, dims))
        return ("box", lows, tuple(n + unit * rolls.randrange(1, 9) for n in lows))
    if kind == 2:
        axis = rolls.randrange(dims)
        return ("upto", ((axis, 1),), unit * rolls.randrange(-9, 10))
    if kind == 3:
        axis, other = rolls.sample(range(dims), 2)
        return ("upto", ((axis, 1), (other, rolls.choice((1, -1)))), 2 * unit * rolls.randrange(-6, 7))
    if kind == 4:
        return ("not", random_region(rolls, dims, names, depth - 1, unit))
    if kind < 8 and depth > 0:
        word = rolls.choice(("and", "or"))
        return (word, random_region(rolls, dims, names, depth - 1, unit),
                random_region(rolls, dims, names, depth - 1, unit))
    return ("all",)


def random_expression(rolls, dims, names, depth):
    """An expression."""
    kind = rolls.randrange(8 if depth > 0 else 3)
    inner = lambda: random_expression(rolls, dims, names, depth - 1)
    if kind == 0 and names:
        return ("field", rolls.choice(names))
    if kind < 2:
        return ("number", rolls.randrange(0, 20))
    if kind == 2:
        return ("axis", rolls.randrange(dims))
    if kind == 3:
        return ("abs", inner())
    if kind == 4:
        return (rolls.choice(("min", "max")), inner(), inner())
    if kind == 5:
        return ("product", tuple(inner() for _ in range(rolls.randrange(2, 7 if depth < 2 else 4))))
    if kind == 6:
        return ("sum", ((-1, inner()),))
    return ("sum", tuple((rolls.choice((1, -1)), inner()) for _ in range(rolls.randrange(2, 5))))


def random_quantity(rolls, dims, fields):
    """A quantity."""
    kind = rolls.randrange(3 if fields else 2)
    if kind == 0:
        return (rolls.choice(("one", "generation", "level", "stage", "size")),)
    if kind == 1:
        return (rolls.choice(("low", "high")), rolls.randrange(dims))
    return (rolls.choice(("least", "most", "error")), rolls.choice(fields))


def random_sum(rolls, dims, fields):
    """A sum."""
    many = rolls.randrange(1, 5)
    numbers = [rolls.choice((-1, 0, 1, 2, -7, 9999999, -9999999)) for _ in range(many)]
    return ("sum", tuple((number, random_quantity(rolls, dims, fields)) for number in numbers))


def random_test(rolls, dims, regions, fields, depth):
    """A test."""
    kind = rolls.randrange(7 if depth > 0 else 4)
    if kind == 0 and regions:
        return (rolls.choice(("in", "out", "cut")), rolls.choice(regions))
    if kind < 2:
        return ("compare", rolls.choice(MARKS), random_sum(rolls, dims, fields), random_sum(rolls, dims, fields))
    if kind == 2:
        return (rolls.choice(("has", "corner")), random_point(rolls, dims))
    if kind == 3:
        paths = ["".join(rolls.choice("01") for _ in range(rolls.randrange(4))) for _ in range(rolls.randrange(4))]
        return ("bad", tuple((rolls.randrange(12), path) for path in paths))
    inner = lambda: random_test(rolls, dims, regions, fields, depth - 1)
    return ("not", inner()) if kind == 4 else (rolls.choice(("and", "or")), inner(), inner())


def spoilt(rolls, text, words):
    """The text with one word, or one sign, taken away, put in or exchanged."""
    at = rolls.randrange(len(text) + 1)
    kind = rolls.randrange(4)
    if kind == 0:
        return text[:at] + " " + rolls.choice(words) + " " + text[at:]
    if kind == 1:
        return text[:at] + rolls.choice(words) + text[at + 1:]
    if kind == 2:
        return text[:at]
    parts = text.split(" ")
    k = rolls.randrange(len(parts))
    parts[k:k + 1] = [] if rolls.randrange(2) else [rolls.choice(words)]
    return " ".join(parts)
