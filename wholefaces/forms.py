"""Meshes written as texts, and read from these."""

from wholefaces.bits import bits_from, bits_of, checked_lot
from wholefaces.checks import demand
from wholefaces.errors import InvalidForm, InvalidText
from wholefaces.meshclasses import Mesh
from wholefaces.pointtexts import behind_figures, behind_sign, integer_from
from wholefaces.roots import root_cube, roots_made

HEAD = "mesh "


def root_line(space, root, bits):
    """The line of a root with its bits."""
    cube = root_cube(space, root)
    numbers = ",".join([str(number) for number in cube])
    place = roots_made(space, cube).index(root)
    return f"{numbers}/{place} {bits}\n"


def form_of(mesh):
    """The text of the mesh: its space, then each root with its bits."""
    space, roots = mesh.told()[0]
    lines = [root_line(space, root, bits) for root, bits in zip(roots, bits_of(mesh))]
    return f"{HEAD}{space[0]} {space[1]}\n" + "".join(lines)


def line_and_sign(text, at):
    """The line of the sign at this place of the text, and its place in this line."""
    lines = text[:at].split("\n")
    return len(lines) - 1, len(lines[-1])


def space_from(text):
    """The space that the first line tells, and the place behind this line."""
    at = 0
    for sign in HEAD:
        at = behind_sign(text, at, sign)
    if not text.startswith("2", at) and not text.startswith("3", at):
        raise InvalidText(0, at)
    dims = int(text[at])
    begin = behind_sign(text, at + 1, " ")
    end = behind_figures(text, begin)
    return (dims, int(text[begin:end])), behind_sign(text, end, "\n")


def root_from(space, before, text, at):
    """The root that stands here, which is greater than the one before, if there is one; and the place behind it."""
    cube = []
    for direction in range(space[0]):
        at = at if direction == 0 else behind_sign(text, at, ",")
        number, at = integer_from(text, at)
        cube.append(number)
    at = behind_sign(text, at, "/")
    for figure, root in enumerate(roots_made(space, tuple(cube))):
        if text.startswith(str(figure), at) and (before is None or before < root):
            return root, at + 1
    raise InvalidText(0, at)


def lines_from(text):
    """The solid that the text tells, and its nodes: quadruples (name, whether halved, line, at)."""
    space, at = space_from(text)
    roots = []
    nodes = []
    while at < len(text) or len(roots) == 0:
        root, at = root_from(space, roots[-1] if len(roots) > 0 else None, text, at)
        begin = behind_sign(text, at, " ")
        found, end = bits_from(text, begin, space[0] * space[1])
        for path, place in found:
            line, sign = line_and_sign(text, place)
            nodes.append(((len(roots), path), text[place] == "1", line, sign))
        roots.append(root)
        at = behind_sign(text, end, "\n")
    return (space, tuple(roots)), nodes


def read_form(text):
    """The mesh whose form the text is."""
    demand(isinstance(text, str), "text")
    try:
        solid, nodes = lines_from(text)
    except InvalidText as wrong:
        line, at = line_and_sign(text, wrong.at)
        raise InvalidForm(line, at) from None
    return Mesh(solid, checked_lot(solid, nodes))
