"""Forms, [100]; (G10) of [11]."""

import unittest

from meshtools import M, draw_mesh
from test_bits import nodes_in, string_fault, told_fault
from tools import CUBE, PAIR, SQUARE, WRONG_TEXTS, check_parameters, oracle_roots
from wholefaces.forms import form_of, read_form
from wholefaces.meshclasses import Mesh
from wholefaces.roots import cube_roots
from worlds import World, worlds

FORM = "mesh 2 2\n0,0/0 100\n0,0/1 11000\n"
SIGNS = "0123456789-+,/ \nmeshx1."


class Reader:
    """Reads a form sign by sign; stops at the first wrong one. Made from the words of [100]."""

    def __init__(self, text):
        self.text, self.at, self.roots, self.bits = text, 0, [], []

    def wrong(self):
        raise IndexError

    def sign(self, signs):
        """Takes one of these signs."""
        if self.at == len(self.text) or self.text[self.at] not in signs:
            self.wrong()
        self.at += 1
        return self.text[self.at - 1]

    def number(self, signed):
        """Takes an integer, as str writes it."""
        told = self.sign("-0123456789" if signed else "0123456789")
        if told == "-":
            told += self.sign("123456789")
        if told == "0":
            return 0
        while self.at < len(self.text) and self.text[self.at] in "0123456789":
            told += self.sign("0123456789")
        return int(told)

    def line(self):
        """Takes the line of a root."""
        cube = []
        for k in range(self.dims):
            if k:
                self.sign(",")
            cube.append(self.number(True))
        self.sign("/")
        roots = oracle_roots(self.space, cube)
        right = [str(k) for k, root in enumerate(roots) if not self.roots or root > self.roots[-1]]
        self.roots.append(roots[int(self.sign("".join(right)))])
        self.sign(" ")
        begin, rest = self.at, self.text[self.at:].split("\n")[0]
        fault = string_fault(self.dims * self.space[1], rest)
        if fault is not None and (fault < len(rest) or "\n" not in self.text[self.at:]):
            self.at += fault
            self.wrong()
        self.at += len(rest)
        if fault is not None:
            self.wrong()
        self.bits.append((begin, rest))
        self.sign("\n")

    def read(self):
        """Takes the whole text."""
        for sign in "mesh ":
            self.sign(sign)
        self.dims = int(self.sign("23"))
        self.sign(" ")
        self.space = (self.dims, self.number(False))
        self.sign("\n")
        while self.at < len(self.text) or not self.roots:
            self.line()


def form_fault(text):
    """The error that a text brings, as a tuple of its name and fields; or None, and the solid."""
    reader = Reader(text)
    place = lambda at: (text[:at].count("\n"), at - (text.rfind("\n", 0, at) + 1))
    try:
        reader.read()
    except IndexError:
        return ("InvalidForm",) + place(reader.at)
    world = World((reader.space, tuple(reader.roots)))
    rows = nodes_in([bits for _, bits in reader.bits])
    lot = world.order(world.middle[name] for name, sign, _, _ in rows if sign == "1")
    for point in lot:
        for need in world.needs[point]:
            if need not in lot:
                return "NotClosed", point, need
    for name, sign, line, at in rows:
        if sign == "0" and world.middle.get(name) in lot:
            return ("InvalidForm",) + place(reader.bits[line][0] + at)
    return None


class FormsTest(unittest.TestCase):

    def fault(self, text, *fields):
        """Checks the error that a text brings."""
        with self.subTest(text=text):
            self.assertEqual(told_fault(lambda: read_form(text)), fields)
            self.assertEqual(form_fault(text), fields)

    def test_examples(self):
        self.assertEqual(form_of(M), FORM)
        self.assertEqual(read_form(FORM), M)
        self.fault("mesh 2 2\n", "InvalidForm", 1, 0)
        self.fault("mesh 2 2\n0,0/1 0\n0,0/0 0\n", "InvalidForm", 2, 4)

    def test_first_line(self):
        self.fault("", "InvalidForm", 0, 0)
        self.fault("mash 2 2\n", "InvalidForm", 0, 1)
        self.fault("mesh  2 2\n", "InvalidForm", 0, 5)
        self.fault("mesh 4 2\n", "InvalidForm", 0, 5)
        self.fault("mesh 22 2\n", "InvalidForm", 0, 6)
        self.fault("mesh 2 02\n", "InvalidForm", 0, 8)
        self.fault("mesh 2 -2\n", "InvalidForm", 0, 7)
        self.fault("mesh 2 +2\n", "InvalidForm", 0, 7)
        self.fault("mesh 2 2 \n", "InvalidForm", 0, 8)
        self.fault("mesh 2\n2\n", "InvalidForm", 0, 6)
        self.fault("\nmesh 2 2\n", "InvalidForm", 0, 0)
        self.fault("mesh 2 2", "InvalidForm", 0, 8)
        self.assertEqual(read_form("mesh 2 0\n-1,3/0 0\n").told()[0][0], (2, 0))
        self.fault("mesh 2 0\n-1,3/0 1\n", "InvalidForm", 1, 7)

    def test_roots(self):
        self.fault("mesh 2 2\n\n", "InvalidForm", 1, 0)
        self.fault("mesh 2 2\n0,0/2 0\n", "InvalidForm", 1, 4)
        self.fault("mesh 2 2\n0,0/10 0\n", "InvalidForm", 1, 5)
        self.fault("mesh 2 2\n0,0/-1 0\n", "InvalidForm", 1, 4)
        self.fault("mesh 2 2\n0,0,0/0 0\n", "InvalidForm", 1, 3)
        self.fault("mesh 3 1\n0,0/0 0\n", "InvalidForm", 1, 3)
        self.fault("mesh 2 2\n0, 0/0 0\n", "InvalidForm", 1, 2)
        self.fault("mesh 2 2\n+1,0/0 0\n", "InvalidForm", 1, 0)
        self.fault("mesh 2 2\n-0,0/0 0\n", "InvalidForm", 1, 1)
        self.fault("mesh 2 2\n00,0/0 0\n", "InvalidForm", 1, 1)
        self.fault("mesh 2 2\n0,07/0 0\n", "InvalidForm", 1, 3)
        self.fault("mesh 2 2\n0,0/0 0\n0,0/0 0\n", "InvalidForm", 2, 4)
        self.fault("mesh 2 2\n0,0/1 0\n-1,0/", "InvalidForm", 2, 5)
        self.fault("mesh 2 2\n0,0/0  0\n", "InvalidForm", 1, 6)
        self.fault("mesh 2 2\n0,0/0 0", "InvalidForm", 1, 7)
        self.fault("mesh 2 2\n0,0/0 0 \n", "InvalidForm", 1, 7)
        self.fault("mesh 2 2\n0,0/0 0\n ", "InvalidForm", 2, 0)
        self.fault("mesh 2 2\n0,0/0 0\n\n", "InvalidForm", 2, 0)
        # A later cube whose first root is not greater, while its second one is; which of its roots is which, is as in [21].
        space = (2, 2)
        roots = sorted(cube_roots(space, (1, 0)) + cube_roots(space, (0, 0)))
        self.assertEqual(form_of(Mesh((space, tuple(roots)), ())), "mesh 2 2\n0,0/0 0\n0,0/1 0\n1,0/0 0\n1,0/1 0\n")
        roots = tuple(sorted(cube_roots(space, (-1, 0)) + cube_roots(space, (0, 0))))
        mesh = Mesh((space, roots), ())
        self.assertEqual(read_form(form_of(mesh)), mesh)

    def test_bits(self):
        self.fault("mesh 2 2\n0,0/0 \n", "InvalidForm", 1, 6)
        self.fault("mesh 2 2\n0,0/0 10\n", "InvalidForm", 1, 8)
        self.fault("mesh 2 2\n0,0/0 1000\n", "InvalidForm", 1, 9)
        self.fault("mesh 2 2\n0,0/0 11111\n", "InvalidForm", 1, 10)
        self.fault("mesh 2 2\n0,0/0 2\n", "InvalidForm", 1, 6)
        self.fault("mesh 2 2\n0,0/0 100\n0,0/1 0\n", "InvalidForm", 2, 6)
        self.fault(form_of(Mesh(PAIR, ())).replace("0,0/1 0", "0,0/1 10100").replace("0,0/0 0", "0,0/0 100"), "NotClosed", (4, 2), (6, 2))
        self.fault("mesh 2 2\n0,0/0 0\n0,0/1 1110000\n", "NotClosed", (1, 1), (0, 2))
        self.fault("mesh 2 2\n0,0/0 0\n0,0/1 100\n", "InvalidForm", 1, 6)
        self.fault("mesh 2 2\n0,0/1 101\n", "InvalidForm", 1, 9)

    def test_drawn_meshes(self):
        rolls, made = worlds(1001, 60)
        for world in made:
            mesh, lot, leaves = draw_mesh(rolls, world, 2)
            text = form_of(mesh)
            self.assertEqual(read_form(text), mesh)
            self.assertEqual(form_of(read_form(text)), text)
            self.assertIsNone(form_fault(text))
            for _ in range(14):
                at, sign = rolls.randrange(len(text) + 1), rolls.choice(SIGNS)
                changed = rolls.choice((text[:at], text[:at] + sign + text[at:], text[:at] + sign + text[at + 1:], text[:at] + text[at + 1:]))
                if rounds_of(changed) > world.rounds:
                    continue
                fault = form_fault(changed)
                self.assertEqual(told_fault(lambda: read_form(changed)), fault, changed)
                if fault is None:
                    self.assertEqual(form_of(read_form(changed)), changed)

    def test_each_cut_and_each_sign(self):
        for text in (FORM, form_of(Mesh(CUBE, ((1, 1, 1),)))):
            for at in range(len(text)):
                self.assertEqual(told_fault(lambda: read_form(text[:at])), form_fault(text[:at]))
                for sign in "012-/, \nx":
                    changed = text[:at] + sign + text[at + 1:]
                    if rounds_of(changed) > 2:
                        continue
                    self.assertEqual(told_fault(lambda: read_form(changed)), form_fault(changed), changed)

    def test_many_roots(self):
        solid = ((2, 1), tuple(sorted(root for x in range(-3, 3) for root in cube_roots((2, 1), (x, 0)))))
        mesh = Mesh(solid, World(solid).points[:2])
        self.assertEqual(read_form(form_of(mesh)), mesh)
        self.assertEqual(len(form_of(mesh).split("\n")), 14)

    def test_parameters(self):
        check_parameters(self, read_form, [("text", FORM)], {"text": WRONG_TEXTS})
        self.assertEqual(form_of(mesh=Mesh(SQUARE, ())), "mesh 2 2\n0,0/0 0\n0,0/1 0\n")


def rounds_of(text):
    """The rounds that a text tells, as far as it does."""
    words = text.split("\n")[0].split(" ")
    return int(words[2]) if len(words) == 3 and words[2].isdigit() else 0


if __name__ == "__main__":
    unittest.main()
