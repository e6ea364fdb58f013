"""The lines in which a desk answers."""

from wholefaces.charts import BAR
from wholefaces.pointtexts import place_line, point_line, quotient_line
from wholefaces.reaching import forced_chain
from wholefaces.testtexts import block_word


def text_of(lines):
    """The text of the lines, each closed by a newline."""
    return "".join([line + "\n" for line in lines])


def points_line(space, points):
    """The line of a few points."""
    return " ".join([point_line(space, point) for point in points])


def names_line(names):
    """The line of the names of a few blocks."""
    return " ".join([block_word(name) for name in names])


def block_line(space, name, block):
    """The line of a block."""
    return f"{block_word(name)} {points_line(space, block)}"


def thing_words(space, thing):
    """The line of a point or the bar."""
    return BAR if thing == BAR else point_line(space, thing)


def why_words(why):
    """The words of a why."""
    return why[0] if len(why) == 1 else f"{why[0]} {block_word(why[1])}"


def chain_lines(musts, thing):
    """A line for each thing of the chain that forces a thing, with the why that shows it; None if it is not forced."""
    chain = forced_chain(musts, thing)
    if chain is None:
        return None
    space = musts.told()[0][0][0]
    whys = [musts.why_source(chain[0])]
    whys.extend([musts.why(chain[k - 1], chain[k]) for k in range(1, len(chain))])
    return [f"{thing_words(space, one)}: {why_words(why)}" for one, why in zip(chain, whys)]


def skin_line(space, name, crossings):
    """The line of a block with the places at which its skin crosses its edges."""
    return " ".join([block_word(name)] + [place_line(space, place) for place in crossings])


def stair_line(price, end, many):
    """The line of a triple of the stairs, with how many blocks the mesh of its lot has."""
    last = "on" if end is None else quotient_line(end)
    return f"{quotient_line(price)} {last} {many}"


def walk_line(space, first, last, corners):
    """The line of a triple of a walk."""
    held = "outside" if corners is None else points_line(space, corners)
    return f"{quotient_line(first)} {quotient_line(last)} {held}"
