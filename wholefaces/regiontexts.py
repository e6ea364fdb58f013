"""Regions read from texts and written as lines."""

from wholefaces.checks import demand
from wholefaces.cursors import Cursor, axis_word, take_axis, take_integer, take_point
from wholefaces.logictexts import logic_line, take_logic
from wholefaces.treeparts import region_fits
from wholefaces.wordnames import are_word_names


def take_box(cursor, dims):
    """Takes the two points of a box, behind its word."""
    lows = take_point(cursor, dims, None)
    return ("box", lows, take_point(cursor, dims, lows))


def take_upto(cursor, dims):
    """Takes the axes and the bound of an upto, behind its word."""
    axis = take_axis(cursor, dims)
    terms = ((axis, 1),)
    if cursor.now() in ("+", "-"):
        sign = 1 if cursor.step() == "+" else -1
        if cursor.now() == axis_word(axis):
            cursor.fail()
        terms = terms + ((take_axis(cursor, dims), sign),)
    cursor.take(("<=",))
    return ("upto", terms, take_integer(cursor, None, len(terms)))


def take_region_atom(cursor, dims, names):
    """Takes an ATOM of a region."""
    word = cursor.take(("all", "box", "upto") + names)
    if word == "all":
        return ("all",)
    if word == "box":
        return take_box(cursor, dims)
    if word == "upto":
        return take_upto(cursor, dims)
    return ("name", word)


def take_region(cursor, dims, names):
    """Takes a REGION with these names."""
    return take_logic(cursor, lambda words: take_region_atom(words, dims, names))


def read_region(space, names, text):
    """The region, with these names, that the text tells."""
    demand(are_word_names(names), "names")
    demand(isinstance(text, str), "text")
    cursor = Cursor(text, 0)
    region = take_region(cursor, space[0], names)
    cursor.finish()
    return region


def point_words(point):
    """The words of a POINT."""
    return "(" + ", ".join([str(number) for number in point]) + ")"


def upto_line(terms, bound):
    """The line of an upto."""
    axes = axis_word(terms[0][0])
    if len(terms) == 2:
        sign = "+" if terms[1][1] == 1 else "-"
        axes = f"{axes} {sign} {axis_word(terms[1][0])}"
    return f"upto {axes} <= {bound}"


def region_atom_line(tree):
    """The line of an ATOM of a region."""
    if tree[0] == "all":
        return "all"
    if tree[0] == "box":
        return f"box {point_words(tree[1])} {point_words(tree[2])}"
    if tree[0] == "upto":
        return upto_line(tree[1], tree[2])
    return tree[1]


def region_words(region):
    """The line of a region, which is one."""
    return logic_line(region, region_atom_line)


def region_line(region):
    """The line of a region of the plane or of space."""
    demand(region_fits(2, None, region) or region_fits(3, None, region), "region")
    return region_words(region)
