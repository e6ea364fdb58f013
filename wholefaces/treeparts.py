"""Of which kind is a tree: regions, expressions, sums and tests of the plane (dims 2) or of space (dims 3).

Names, where they are a parameter, are those that may be used; None stands for all word names.
"""

from wholefaces.kinds import is_integer, is_number, is_pair, is_path, is_row
from wholefaces.wordnames import is_name_of, is_word_name

JOINS = ("not", "and", "or")
MARKS = ("<", "<=", "=", ">", ">=")
PLAIN_QUANTITIES = ("one", "generation", "level", "stage", "size")
AXIS_QUANTITIES = ("low", "high")
FIELD_QUANTITIES = ("least", "most", "error")
MOST_FACTORS = 6


def is_tree(thing):
    """Whether the thing is a tuple of something behind a word."""
    return isinstance(thing, tuple) and len(thing) > 0 and isinstance(thing[0], str)


def is_axis(dims, thing):
    """Whether the thing is a direction."""
    return is_number(thing) and thing < dims


def is_sign(thing):
    """Whether the thing is 1 or -1."""
    return is_integer(thing) and thing in (1, -1)


def is_block_name(thing):
    """Whether the thing is any pair of a number and a path."""
    return is_pair(thing) and is_number(thing[0]) and is_path(thing[1])


def is_full_box(dims, thing):
    """Whether the thing is a tuple of two points, each number of the first below that of the second."""
    if not is_pair(thing) or not is_row(dims, thing[0]) or not is_row(dims, thing[1]):
        return False
    return all([low < high for low, high in zip(thing[0], thing[1])])


def are_upto_terms(dims, thing):
    """Whether the thing is a tuple of one or two pairs of an axis and a sign, as in an upto."""
    if not isinstance(thing, tuple) or len(thing) not in (1, 2):
        return False
    if not all([is_pair(term) and is_axis(dims, term[0]) and is_sign(term[1]) for term in thing]):
        return False
    return thing[0][1] == 1 and (len(thing) == 1 or thing[0][0] != thing[1][0])


def is_upto(dims, thing):
    """Whether the thing is a tuple of terms and a bound, even for two terms."""
    if not is_pair(thing) or not are_upto_terms(dims, thing[0]) or not is_integer(thing[1]):
        return False
    return len(thing[0]) == 1 or thing[1] % 2 == 0


def joins_fit(thing, fits):
    """Whether the tree is a not, and, or of as many trees as it has to be, and all of these fit."""
    word, rest = thing[0], thing[1:]
    if word not in JOINS or len(rest) != (1 if word == "not" else 2):
        return False
    return all([fits(part) for part in rest])


def region_fits(dims, names, thing):
    """Whether the thing is a region."""
    if not is_tree(thing):
        return False
    word, rest = thing[0], thing[1:]
    if word == "all":
        return len(rest) == 0
    if word == "box":
        return is_full_box(dims, rest)
    if word == "upto":
        return is_upto(dims, rest)
    if word == "name":
        return len(rest) == 1 and is_name_of(names, rest[0])
    return joins_fit(thing, lambda part: region_fits(dims, names, part))


def terms_fit(dims, names, thing):
    """Whether the thing is a tuple of terms of a sum: at least two, or one with -1."""
    if not isinstance(thing, tuple) or len(thing) == 0:
        return False
    for term in thing:
        if not is_pair(term) or not is_sign(term[0]) or not expression_fits(dims, names, term[1]):
            return False
    return len(thing) > 1 or thing[0][0] == -1


def expressions_fit(dims, names, thing):
    """Whether the thing is a tuple of expressions alone."""
    return isinstance(thing, tuple) and all([expression_fits(dims, names, part) for part in thing])


def expression_fits(dims, names, thing):
    """Whether the thing is an expression."""
    if not is_tree(thing):
        return False
    word, rest = thing[0], thing[1:]
    if word in ("min", "max"):
        return len(rest) == 2 and expressions_fit(dims, names, rest)
    if len(rest) != 1:
        return False
    part = rest[0]
    if word == "number":
        return is_number(part)
    if word == "axis":
        return is_axis(dims, part)
    if word == "field":
        return is_name_of(names, part)
    if word == "sum":
        return terms_fit(dims, names, part)
    if word == "product":
        return expressions_fit(dims, names, part) and 2 <= len(part) <= MOST_FACTORS
    return word == "abs" and expression_fits(dims, names, part)


def quantity_fits(dims, fields, thing):
    """Whether the thing is a quantity."""
    if not is_tree(thing):
        return False
    word, rest = thing[0], thing[1:]
    if word in PLAIN_QUANTITIES:
        return len(rest) == 0
    if len(rest) != 1:
        return False
    if word in AXIS_QUANTITIES:
        return is_axis(dims, rest[0])
    return word in FIELD_QUANTITIES and is_name_of(fields, rest[0])


def sum_fits(dims, fields, thing):
    """Whether the thing is a sum."""
    if not is_tree(thing) or thing[0] != "sum" or len(thing) != 2:
        return False
    parts = thing[1]
    if not isinstance(parts, tuple) or len(parts) == 0:
        return False
    return all([is_pair(part) and is_integer(part[0]) and quantity_fits(dims, fields, part[1]) for part in parts])


def comparison_fits(dims, fields, thing):
    """Whether the thing is a tuple of a mark and two sums."""
    if len(thing) != 3 or thing[0] not in MARKS:
        return False
    return sum_fits(dims, fields, thing[1]) and sum_fits(dims, fields, thing[2])


def test_fits(dims, regions, fields, thing):
    """Whether the thing is a test."""
    if not is_tree(thing):
        return False
    word, rest = thing[0], thing[1:]
    if word == "compare":
        return comparison_fits(dims, fields, rest)
    if word in JOINS:
        return joins_fit(thing, lambda part: test_fits(dims, regions, fields, part))
    if len(rest) != 1:
        return False
    part = rest[0]
    if word in ("in", "out", "cut"):
        return is_name_of(regions, part)
    if word in ("has", "corner"):
        return is_row(dims, part)
    return word == "bad" and isinstance(part, tuple) and all([is_block_name(name) for name in part])


def named_trees_fit(thing, fits):
    """Whether the thing is a tuple of pairs (word name, tree), no name twice; fits(names ahead, tree) tells of each."""
    if not isinstance(thing, tuple):
        return False
    names = ()
    for pair in thing:
        if not is_pair(pair) or not is_word_name(pair[0]) or pair[0] in names or not fits(names, pair[1]):
            return False
        names = names + (pair[0],)
    return True


def regions_fit(dims, thing):
    """Whether the thing is regions: each uses names of earlier ones alone."""
    return named_trees_fit(thing, lambda names, tree: region_fits(dims, names, tree))


def fields_fit(dims, thing):
    """Whether the thing is fields: each uses names of earlier ones alone."""
    return named_trees_fit(thing, lambda names, tree: expression_fits(dims, names, tree))


def names_in(named):
    """The names of pairs (name, tree), in their sequence."""
    return tuple([name for name, _ in named])
