"""Sums and tests read from texts and written as lines."""

from wholefaces.checks import demand
from wholefaces.cursors import Cursor, axis_word, is_numeral, take_axis, take_point
from wholefaces.kinds import is_path
from wholefaces.logictexts import logic_line, take_logic
from wholefaces.regiontexts import point_words
from wholefaces.treeparts import AXIS_QUANTITIES, FIELD_QUANTITIES, MARKS, sum_fits, test_fits
from wholefaces.wordnames import are_word_names

PLAIN_WORDS = ("generation", "level", "stage", "size")


def take_quantity(cursor, dims, fields):
    """Takes a QUANTITY."""
    word = cursor.take(PLAIN_WORDS + AXIS_QUANTITIES + FIELD_QUANTITIES)
    if word in AXIS_QUANTITIES:
        return (word, take_axis(cursor, dims))
    if word in FIELD_QUANTITIES:
        return (word, cursor.take(fields))
    return (word,)


def take_part(cursor, dims, fields, sign):
    """Takes a PART, its minus being taken if the sign is -1."""
    if not is_numeral(cursor.now()):
        return (sign, take_quantity(cursor, dims, fields))
    number = sign * int(cursor.step())
    if cursor.now() != "*":
        return (number, ("one",))
    cursor.step()
    return (number, take_quantity(cursor, dims, fields))


def take_sum(cursor, dims, fields):
    """Takes a SUM with these names of fields."""
    sign = 1
    if cursor.now() == "-":
        cursor.step()
        sign = -1
    parts = [take_part(cursor, dims, fields, sign)]
    while cursor.now() in ("+", "-"):
        sign = 1 if cursor.step() == "+" else -1
        parts.append(take_part(cursor, dims, fields, sign))
    return ("sum", tuple(parts))


def read_sum(space, fields, text):
    """The sum, with these names of fields, that the text tells."""
    demand(are_word_names(fields), "fields")
    demand(isinstance(text, str), "text")
    cursor = Cursor(text, 0)
    parts = take_sum(cursor, space[0], fields)
    cursor.finish()
    return parts


def block_of_word(word):
    """The name of a block that a BLOCK tells, None if the word is none."""
    number, dot, path = word[1:].partition(".")
    if not word.startswith("r") or not is_numeral(number) or not is_path(path) or (path == "") != (dot == ""):
        return None
    return int(number), path


def take_block(cursor):
    """Takes a BLOCK, the name of which is returned."""
    name = block_of_word(cursor.now())
    if name is None:
        cursor.fail()
    cursor.step()
    return name


def take_blocks(cursor):
    """Takes the names of a bad, in their brackets."""
    cursor.take(("(",))
    if cursor.now() == ")":
        cursor.step()
        return ()
    names = [take_block(cursor)]
    while cursor.take((",", ")")) == ",":
        names.append(take_block(cursor))
    return tuple(names)


def take_test_atom(cursor, dims, regions, fields):
    """Takes an ATOM of a test."""
    word = cursor.now()
    if word in ("in", "out", "cut"):
        return (cursor.step(), cursor.take(regions))
    if word in ("has", "corner"):
        return (cursor.step(), take_point(cursor, dims, None))
    if word == "bad":
        return (cursor.step(), take_blocks(cursor))
    one = take_sum(cursor, dims, fields)
    mark = cursor.take(MARKS)
    return ("compare", mark, one, take_sum(cursor, dims, fields))


def take_test(cursor, dims, regions, fields):
    """Takes a TEST with these names of regions and of fields."""
    return take_logic(cursor, lambda words: take_test_atom(words, dims, regions, fields))


def read_test(space, regions, fields, text):
    """The test, with these names of regions and of fields, that the text tells."""
    demand(are_word_names(regions), "regions")
    demand(are_word_names(fields), "fields")
    demand(isinstance(text, str), "text")
    cursor = Cursor(text, 0)
    test = take_test(cursor, space[0], regions, fields)
    cursor.finish()
    return test


def quantity_words(quantity):
    """The line of a QUANTITY."""
    if quantity[0] in AXIS_QUANTITIES:
        return f"{quantity[0]} {axis_word(quantity[1])}"
    return " ".join(quantity)


def part_words(number, quantity):
    """The line of a PART, the number being at least 0."""
    if quantity[0] == "one":
        return str(number)
    if number == 1:
        return quantity_words(quantity)
    return f"{number} * {quantity_words(quantity)}"


def sum_words(parts):
    """The line of a sum, which is one."""
    line = ""
    for number, quantity in parts[1]:
        if line == "":
            line = "-" if number < 0 else ""
        else:
            line = line + (" - " if number < 0 else " + ")
        line = line + part_words(abs(number), quantity)
    return line


def sum_line(parts):
    """The line of a sum of the plane or of space."""
    # What is one of the plane is one of space, too.
    demand(sum_fits(3, None, parts), "parts")
    return sum_words(parts)


def block_word(name):
    """The BLOCK of the name of a block."""
    number, path = name
    return f"r{number}" if path == "" else f"r{number}.{path}"


def test_atom_line(tree):
    """The line of an ATOM of a test."""
    word = tree[0]
    if word == "compare":
        return f"{sum_words(tree[2])} {tree[1]} {sum_words(tree[3])}"
    if word == "bad":
        return "bad (" + ", ".join([block_word(name) for name in tree[1]]) + ")"
    if word in ("has", "corner"):
        return f"{word} {point_words(tree[1])}"
    return f"{word} {tree[1]}"


def test_words(test):
    """The line of a test, which is one."""
    return logic_line(test, test_atom_line)


def test_line(test):
    """The line of a test of the plane or of space."""
    demand(test_fits(2, None, None, test) or test_fits(3, None, None, test), "test")
    return test_words(test)
