"""Bits, [99]; (G10) of [11]."""

import unittest

from meshtools import M, draw_mesh
from tools import PAIR, SQUARE, check_parameters
from wholefaces.bits import bits_of, lot_of_bits
from wholefaces.errors import InvalidForm, NotClosed
from wholefaces.meshclasses import Mesh
from worlds import World, worlds

WRONG_BITS = (None, True, 0, "", "00", [], ["0", "0"], (), ("0",), ("0", "0", "0"), ("0", None), ("0", 0), ("0", True), (("0",), ("0",)), ("0", ["0"]))


def bits_oracle(world, cutting):
    """The bits of a cutting, node by node."""
    def signs(name):
        if name not in cutting:
            return "0"
        return "1" + signs((name[0], name[1] + "0")) + signs((name[0], name[1] + "1"))
    return tuple(signs((k, "")) for k in range(len(world.roots)))


def string_fault(top, text):
    """The first sign of a string of bits that is wrong, its length if it ends too soon; None if it is right."""
    open_paths = [""]
    for at, sign in enumerate(text):
        if not open_paths:
            return at
        path = open_paths.pop(0)
        if sign not in ("0", "1") or (sign == "1" and len(path) == top):
            return at
        if sign == "1":
            open_paths = [path + "0", path + "1"] + open_paths
    return len(text) if open_paths else None


def nodes_in(texts):
    """The names of the nodes that right strings of bits tell, in their sequence, each with its sign, line and place."""
    rows = []
    for line, text in enumerate(texts):
        open_paths = [""]
        for at, sign in enumerate(text):
            path = open_paths.pop(0)
            rows.append(((line, path), sign, line, at))
            if sign == "1":
                open_paths = [path + "0", path + "1"] + open_paths
    return rows


def bits_fault(world, texts):
    """The error that bits bring, as a tuple of its name and fields; or None."""
    for line, text in enumerate(texts):
        at = string_fault(world.top, text)
        if at is not None:
            return "InvalidForm", line, at
    rows = nodes_in(texts)
    lot = world.order(world.middle[name] for name, sign, _, _ in rows if sign == "1")
    for point in lot:
        for need in world.needs[point]:
            if need not in lot:
                return "NotClosed", point, need
    for name, sign, line, at in rows:
        if sign == "0" and world.middle.get(name) in lot:
            return "InvalidForm", line, at
    return None


def told_fault(call):
    """The error that a call raises, as a tuple of its name and fields; or None."""
    try:
        call()
    except InvalidForm as error:
        return "InvalidForm", error.line, error.at
    except NotClosed as error:
        return "NotClosed", error.point, error.need
    return None


class BitsTest(unittest.TestCase):

    def fault(self, solid, bits, *fields):
        """Checks the error that bits bring."""
        with self.subTest(bits=bits):
            self.assertEqual(told_fault(lambda: lot_of_bits(solid, bits)), fields)
            self.assertEqual(bits_fault(World(solid), bits), fields)

    def test_examples(self):
        self.assertEqual(bits_of(M), ("100", "11000"))
        self.fault(PAIR, ("100", "10100", "0", "0"), "NotClosed", (4, 2), (6, 2))
        self.fault(SQUARE, ("100", "0"), "InvalidForm", 1, 0)
        self.assertEqual(lot_of_bits(SQUARE, ("100", "11000")), ((2, 2), (2, 0)))
        self.assertEqual(lot_of_bits(SQUARE, ("0", "0")), ())

    def test_faults(self):
        self.fault(SQUARE, ("", "0"), "InvalidForm", 0, 0)
        self.fault(SQUARE, ("10", "0"), "InvalidForm", 0, 2)
        self.fault(SQUARE, ("100", "1000"), "InvalidForm", 1, 3)
        self.fault(SQUARE, ("100", "1a0"), "InvalidForm", 1, 1)
        self.fault(SQUARE, ("100", " 100"), "InvalidForm", 1, 0)
        self.fault(SQUARE, ("11111", "2"), "InvalidForm", 0, 4)
        self.fault(SQUARE, ("1111000000", "0"), "InvalidForm", 0, 9)
        self.fault(SQUARE, ("1111", "0"), "InvalidForm", 0, 4)
        self.fault(SQUARE, ("100", "\n"), "InvalidForm", 1, 0)
        self.fault(SQUARE, ("100", "00"), "InvalidForm", 1, 1)
        # A fault of the second string is told ahead of what is not closed in the first.
        self.fault(SQUARE, ("11000", "x"), "InvalidForm", 1, 0)
        self.fault(SQUARE, ("0", "10100"), "InvalidForm", 0, 0)
        # The middle of the first 0 came; what is not closed is told ahead of it.
        self.fault(SQUARE, ("0", "1110000"), "NotClosed", (1, 1), (0, 2))
        self.fault(SQUARE, ("0", "100"), "InvalidForm", 0, 0)
        self.fault(PAIR, ("0", "10100", "0", "0"), "NotClosed", (4, 2), (6, 2))

    def test_generation_top(self):
        solid = ((2, 1), (((0, 0), (0, 2), (2, 2)),))
        self.assertEqual(lot_of_bits(solid, ("1100100",)), World(solid).points)
        self.fault(solid, ("111",), "InvalidForm", 0, 2)
        self.assertEqual(lot_of_bits(((2, 0), (((0, 0), (0, 1), (1, 1)),)), ("0",)), ())
        self.fault(((2, 0), (((0, 0), (0, 1), (1, 1)),)), ("1",), "InvalidForm", 0, 0)

    def test_drawn_meshes(self):
        rolls, made = worlds(991, 60)
        for world in made:
            mesh, lot, leaves = draw_mesh(rolls, world)
            bits = bits_of(mesh)
            self.assertEqual(bits, bits_oracle(world, world.cutting(lot)))
            self.assertEqual(lot_of_bits(world.solid, bits), lot)
            self.check_changes(rolls, world, bits)

    def check_changes(self, rolls, world, bits):
        """One sign left out, doubled, put in or changed; the strings of any cutting."""
        rows = []
        for _ in range(8):
            k = rolls.randrange(len(bits))
            at, sign = rolls.randrange(len(bits[k]) + 1), rolls.choice("01 x2\n-")
            texts = [bits[k][:at] + sign + bits[k][at:], bits[k][:at] + sign + bits[k][at + 1:], bits[k][:at] + bits[k][at + 1:], bits[k][:at]]
            rows += [bits[:k] + (text,) + bits[k + 1:] for text in texts]
        rows.append(bits_oracle(world, world.draw_cutting(rolls)))
        for row in rows:
            fault = bits_fault(world, row)
            self.assertEqual(told_fault(lambda: lot_of_bits(world.solid, row)), fault, row)
            if fault is None:
                self.assertEqual(bits_of(Mesh(world.solid, lot_of_bits(world.solid, row))), row)

    def test_cuttings(self):
        rolls, made = worlds(992, 120, 2, 2)
        told = {}
        for world in made:
            bits = bits_oracle(world, world.draw_cutting(rolls))
            fault = bits_fault(world, bits)
            self.assertEqual(told_fault(lambda: lot_of_bits(world.solid, bits)), fault)
            told[fault and fault[0]] = told.get(fault and fault[0], 0) + 1
        self.assertGreater(min(told[None], told["InvalidForm"], told["NotClosed"]), 8)

    def test_whatever_road(self):
        one = Mesh(SQUARE, ((2, 2), (2, 0))) | Mesh(SQUARE, ((2, 2), (0, 2)))
        self.assertEqual(bits_of(one), bits_of(Mesh(SQUARE, ((2, 2), (0, 2), (2, 0)))))
        self.assertEqual(bits_of(mesh=one & M), bits_of(M))

    def test_parameters(self):
        check_parameters(self, lot_of_bits, [("solid", SQUARE), ("bits", ("100", "100"))], {"bits": WRONG_BITS})


if __name__ == "__main__":
    unittest.main()
