"""Quotients, points and places as lines, and lines read as these."""

from wholefaces.checks import demand
from wholefaces.divisors import common_divisor
from wholefaces.errors import InvalidText
from wholefaces.kinds import is_place, is_point, is_quotient
from wholefaces.quotients import quotient_of, scaled

FIGURES = "0123456789"


def quotient_line(quotient):
    """The line of a quotient."""
    demand(is_quotient(quotient), "quotient")
    if quotient[1] == 1:
        return str(quotient[0])
    return f"{quotient[0]}/{quotient[1]}"


def row_line(quotients):
    """The line of the numbers of a point or place."""
    lines = [quotient_line(quotient) for quotient in quotients]
    return "(" + ", ".join(lines) + ")"


def point_line(space, point):
    """The line of a point."""
    demand(is_point(space, point), "point")
    return row_line([(number, 1) for number in point])


def place_line(space, place):
    """The line of a place."""
    demand(is_place(space, place), "place")
    return row_line([quotient_of(number, place[-1]) for number in place[:-1]])


def behind_sign(text, at, sign):
    """The place behind the sign, which has to stand here."""
    if not text.startswith(sign, at):
        raise InvalidText(0, at)
    return at + 1


def behind_figures(text, at):
    """The place behind the row of figures that stands here; a row that begins with 0 is 0 alone."""
    if at == len(text) or text[at] not in FIGURES:
        raise InvalidText(0, at)
    end = at + 1
    if text[at] == "0":
        return end
    while end < len(text) and text[end] in FIGURES:
        end = end + 1
    return end


def integer_from(text, at):
    """The integer that stands here, and the place behind it."""
    if not text.startswith("-", at):
        end = behind_figures(text, at)
        return int(text[at:end]), end
    if text.startswith("0", at + 1):
        raise InvalidText(0, at + 1)
    end = behind_figures(text, at + 1)
    return int(text[at:end]), end


def quotient_from(text, at):
    """The quotient that stands here, and the place behind it.

    A bottom that does not fit may still go on to one that does, but not with the sign that follows.
    """
    top, end = integer_from(text, at)
    if top == 0 or not text.startswith("/", end):
        return (top, 1), end
    if text.startswith("0", end + 1):
        raise InvalidText(0, end + 1)
    behind = behind_figures(text, end + 1)
    bottom = int(text[end + 1:behind])
    if bottom == 1 or common_divisor((top, bottom)) != 1:
        raise InvalidText(0, behind)
    return (top, bottom), behind


def demand_end(text, at):
    """Raises InvalidText if the text goes on here."""
    if at != len(text):
        raise InvalidText(0, at)


def read_quotient(text):
    """The quotient whose line is the text."""
    demand(isinstance(text, str), "text")
    quotient, end = quotient_from(text, 0)
    demand_end(text, end)
    return quotient


def read_row(space, text, number_from):
    """The numbers of a point or place whose line is the text; number_from reads each of them."""
    demand(isinstance(text, str), "text")
    numbers = []
    at = behind_sign(text, 0, "(")
    for direction in range(space[0]):
        if direction > 0:
            at = behind_sign(text, behind_sign(text, at, ","), " ")
        number, at = number_from(text, at)
        numbers.append(number)
    demand_end(text, behind_sign(text, at, ")"))
    return tuple(numbers)


def read_point(space, text):
    """The point whose line is the text."""
    return read_row(space, text, integer_from)


def read_place(space, text):
    """The place whose line is the text."""
    numbers, shared = scaled(read_row(space, text, quotient_from))
    return tuple(numbers) + (shared,)
