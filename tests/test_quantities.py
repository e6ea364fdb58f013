"""Quantities, sums, errors and fine points of blocks, [53] and [9]; (G8) of [11]."""

import unittest

from musttools import draw_frame, draw_quantity, draw_sum, error_oracle, fine_oracle, names_within, quantity_oracle, sum_oracle
from tools import LOW, PAIR, R0, R1, SQUARE, TINY, WRONG_BLOCKS, check_parameters, pair_of
from wholefaces.heldpoints import held_points
from wholefaces.quantities import error_of, fine_points, quantity_of, sum_of
from worlds import World, worlds

X, Y = ("axis", 0), ("axis", 1)
FRAME = (SQUARE, 2, (("a", ("all",)),), (("f", ("product", (X, X))), ("big", ("product", (("number", 10 ** 9),) * 3 + (X, Y)))))
OFF_BLOCKS = WRONG_BLOCKS + (TINY, PAIR[1][2])
WRONG_QUANTITIES = (None, True, "one", (), ("two",), ["one"], ("one", 1), ("low",), ("low", 2), ("low", True), ("high", -1), ("least", "a"),
                    ("error", "h"), ("error",), ("most", None), ("size", "f"), ("sum", ((1, ("one",)),)))
WRONG_SUMS = (None, True, (), "one", ("one",), ("sum",), ("sum", ()), ("sum", [(1, ("one",))]), ("sum", ((True, ("one",)),)),
              ("sum", ((1, ("one",), 1),)), ("sum", ((1, ("low", 2)),)), ("sum", ((1, ("error", "a")),)), ["sum", ((1, ("one",)),)],
              ("sum", ((1, ("one",)), None)), ("sum", ((1, ("one",)),), ()), ("sum", (("1", ("one",)),)))
WRONG_FIELDS = (None, True, 0, "", "g", "a", "F", ("f",), ["f"], "f ")


class QuantitiesTest(unittest.TestCase):

    def test_examples(self):
        self.assertEqual(sum_of(FRAME, ("sum", ((-1, ("size",)), (2, ("error", "f")))), R1), (4, 1))
        self.assertEqual(fine_points(FRAME, R1), ((0, 0), (4, 0), (4, 4), (2, 2), (2, 0), (4, 2)))
        self.assertEqual(error_of(FRAME, "f", R1), (4, 1))
        self.assertEqual(error_of(FRAME, "f", LOW), (4, 1))
        self.assertEqual(quantity_of(FRAME, ("one",), R0), (1, 1))
        told = [quantity_of(FRAME, (word,), LOW) for word in ("generation", "level", "stage", "size")]
        self.assertEqual(told, [(1, 1), (0, 1), (1, 1), (4, 1)])
        told = [quantity_of(FRAME, quantity, LOW) for quantity in (("low", 1), ("high", 0), ("least", "f"), ("most", "f"))]
        self.assertEqual(told, [(0, 1), (4, 1), (0, 1), (16, 1)])

    def test_size_at_top(self):
        frame = (SQUARE, 4, (), ())
        block = World(SQUARE).blocks[(1, "0110")]
        self.assertEqual([quantity_of(frame, (word,), block) for word in ("size", "level", "stage")], [(1, 1), (2, 1), (0, 1)])

    def test_drawn_frames(self):
        rolls, made = worlds(531, 50)
        for world in made:
            frame = draw_frame(rolls, world, 60)
            names = names_within(world, frame[1])
            for name in rolls.sample(names, min(6, len(names))):
                block = world.blocks[name]
                fine = fine_oracle(world, frame[1], name)
                self.assertEqual(fine_points(frame, block), fine)
                later = held_points(world.space, block, len(name[1]), frame[1])
                self.assertEqual(set(fine), set(block) | set(later))
                for field, _ in frame[3]:
                    error = pair_of(error_oracle(world, frame, field, name))
                    self.assertEqual(error_of(frame, field, block), error)
                    if len(name[1]) == frame[1]:
                        self.assertEqual(error, (0, 1))
                for _ in range(4):
                    quantity = draw_quantity(rolls, frame)
                    told = quantity_of(frame, quantity, block)
                    self.assertEqual(told, pair_of(quantity_oracle(world, frame, quantity, name)))
                parts = draw_sum(rolls, frame)
                self.assertEqual(sum_of(frame, parts, block), pair_of(sum_oracle(world, frame, parts, name)))

    def test_each_generation_and_deep(self):
        field = ("f", ("sum", ((1, ("product", (X, X, Y))), (-1, ("abs", ("sum", ((1, Y), (-1, ("number", 3)))))))))
        world = World(((2, 2), (R1,)))
        for deep in range(5):
            frame = (world.solid, deep, (), (field,))
            for name in names_within(world, deep):
                block = world.blocks[name]
                self.assertEqual(fine_points(frame, block), fine_oracle(world, deep, name))
                self.assertEqual(error_of(frame, "f", block), pair_of(error_oracle(world, frame, "f", name)))
                told = quantity_of(frame, ("error", "f"), block)
                self.assertEqual(told, error_of(frame, "f", block))

    def test_great_values(self):
        self.assertEqual(error_of(FRAME, "big", R1), (4 * 10 ** 27, 1))
        self.assertEqual(quantity_of(FRAME, ("most", "big"), R1), (16 * 10 ** 27, 1))
        parts = ("sum", ((10 ** 9, ("most", "big")), (-10 ** 9, ("error", "big"))))
        self.assertEqual(sum_of(FRAME, parts, R1), (12 * 10 ** 36, 1))

    def test_errors_that_are_no_integers(self):
        frame = (((2, 3), (((0, 0), (8, 0), (8, 8)),)), 6, (), (("f", ("max", X, ("number", 1))),))
        self.assertEqual(error_of(frame, "f", ((0, 0), (8, 0), (8, 8))), (7, 8))

    def test_parameters(self):
        frame = [("frame", FRAME)]
        check_parameters(self, quantity_of, frame + [("quantity", ("low", 1)), ("block", LOW)],
                         {"quantity": WRONG_QUANTITIES, "block": OFF_BLOCKS})
        check_parameters(self, sum_of, frame + [("parts", ("sum", ((2, ("most", "f")),))), ("block", LOW)],
                         {"parts": WRONG_SUMS, "block": OFF_BLOCKS})
        check_parameters(self, error_of, frame + [("field", "f"), ("block", R0)], {"field": WRONG_FIELDS, "block": OFF_BLOCKS})
        check_parameters(self, fine_points, frame + [("block", R0)], {"block": OFF_BLOCKS})


if __name__ == "__main__":
    unittest.main()
