"""Which values are regions, expressions, sums, tests and plans, [32] and [9]."""

import random
import unittest

from test_exprtexts import WRONG_EXPRESSIONS
from test_regiontexts import WRONG_REGIONS
from test_testtexts import WRONG_SUMS, WRONG_TESTS
from tools import ODDS, PLANE, WRONG_NAMES, check_parameters, deep
from trees import random_expression, random_region, random_sum, random_test
from wholefaces.treekinds import is_expression, is_plan, is_region, is_sum, is_test

SPACE = (3, 0)
NAMES = ("a", "b1", "f")
ALL = ("all",)
SUM = ("sum", ((1, ("one",)),))
BAD = ("bad", ())
REGIONS = (("a", ALL), ("b", ("not", ("name", "a"))))
FIELDS = (("f", ("axis", 0)), ("g", ("sum", ((1, ("field", "f")), (-1, ("number", 2))))))
WORTHS = (("w", ("sum", ((-1, ("error", "g")), (4, ("low", 1)))),),)
WISHES = (("v", ("in", "b")), ("u", ("compare", "<", SUM, ("sum", ((1, ("least", "f")),)))))
PLAN = (2, 5, 8, 10, REGIONS, ("name", "b"), FIELDS, WORTHS, WISHES)


def spots(tree):
    """The ways to all parts of a tree, itself among them."""
    found = [()]
    if isinstance(tree, tuple):
        found += [(k,) + way for k, part in enumerate(tree) for way in spots(part)]
    return found


def part_at(tree, way):
    """The part to which the way leads."""
    return tree if way == () else part_at(tree[way[0]], way[1:])


def put(tree, way, part):
    """The tree with the part in the place to which the way leads."""
    if way == ():
        return part
    return tree[:way[0]] + (put(tree[way[0]], way[1:], part),) + tree[way[0] + 1:]


def spoilt_part(part):
    """Values that no tree has in the place of this part."""
    if isinstance(part, int):
        return [bool(part % 2), str(part), None, (part,)]
    if isinstance(part, str):
        return ["none!", "", None, 7, [part], (part,)] if part not in ("", "0", "1") else ["2", None, 0]
    return [list(part), part + (None,), None, "a", True, (part,), [part]]


class TreeKindsTest(unittest.TestCase):

    def check_spoilt(self, rolls, tree, tells):
        self.assertIs(tells(tree), True)
        ways = spots(tree)
        for way in rolls.sample(ways, min(8, len(ways))):
            part = part_at(tree, way)
            for other in spoilt_part(part):
                if part in ("", "0", "1") or not (isinstance(part, str) and set(part) <= set("01")):
                    self.assertIs(tells(put(tree, way, other)), False, (tree, way, other))

    def test_random_trees(self):
        rolls = random.Random(41)
        for k in range(300):
            dims = 2 + k % 2
            space = (dims, k % 6)
            self.check_spoilt(rolls, random_region(rolls, dims, NAMES, 4), lambda thing: is_region(space, NAMES, thing))
            self.check_spoilt(rolls, random_expression(rolls, dims, NAMES, 3),
                              lambda thing: is_expression(space, NAMES, thing))
            self.check_spoilt(rolls, random_sum(rolls, dims, NAMES), lambda thing: is_sum(space, NAMES, thing))
            self.check_spoilt(rolls, random_test(rolls, dims, NAMES[:2], NAMES[2:], 3),
                              lambda thing: is_test(space, NAMES[:2], NAMES[2:], thing))

    def test_wrong_things(self):
        kinds = ((lambda space, thing: is_region(space, NAMES, thing), WRONG_REGIONS),
                 (lambda space, thing: is_expression(space, NAMES, thing), WRONG_EXPRESSIONS),
                 (lambda space, thing: is_sum(space, NAMES, thing), WRONG_SUMS),
                 (lambda space, thing: is_test(space, NAMES, NAMES, thing), WRONG_TESTS))
        for tells, wrong in kinds:
            for thing in wrong + ODDS + (deep(ALL, 28), deep(SUM, 27), [ALL], (ALL,)):
                both = (tells(PLANE, thing), tells(SPACE, thing))
                self.assertEqual(both, (False, False), thing)

    def test_space_and_names(self):
        cases = ((is_region, ("box", (0, 0), (1, 1)), ("box", (0, 0, 0), (1, 1, 1)), ("name", "a")),
                 (is_region, ("and", ALL, ("box", (0, 0), (1, 1))), ("upto", ((0, 1), (2, -1)), 2), ("not", ("name", "a"))),
                 (is_expression, None, ("axis", 2), ("field", "a")),
                 (is_expression, None, ("min", ("axis", 0), ("axis", 2)), ("abs", ("field", "a"))),
                 (is_sum, None, ("sum", ((1, ("low", 2)),)), ("sum", ((1, ("most", "a")),))))
        for function, flat, full, named in cases:
            if flat is not None:
                self.assertEqual([function(space, (), flat) for space in (PLANE, SPACE)], [True, False])
            self.assertEqual([function(space, (), full) for space in (PLANE, SPACE)], [False, True])
            self.assertEqual([function(PLANE, names, named) for names in ((), ("b",), ("b", "a"))], [False, False, True])
        for test, expected in ((("in", "a"), (True, False)), (("cut", "a"), (True, False)),
                               (("compare", "<", SUM, ("sum", ((1, ("least", "a")),))), (False, True)),
                               (("has", (0, 0)), (True, True)), (("corner", (0, 0, 0)), (False, False))):
            self.assertEqual((is_test(PLANE, ("a",), (), test), is_test(PLANE, (), ("a",), test)), expected)
        self.assertIs(is_test(SPACE, (), (), ("corner", (0, 0, 0))), True)

    def test_bounds_of_trees(self):
        x = ("axis", 0)
        for many in range(1, 9):
            self.assertIs(is_expression(PLANE, (), ("product", (x,) * many)), 2 <= many <= 6)
            self.assertIs(is_expression(PLANE, (), ("sum", ((1, x),) * many)), many >= 2)
            self.assertIs(is_expression(PLANE, (), ("sum", ((-1, x),) * many)), True)
        self.assertIs(is_region(PLANE, (), ("upto", ((0, 1), (1, -1)), 10 ** 59)), True)
        self.assertIs(is_region(PLANE, (), ("upto", ((0, 1), (1, -1)), 10 ** 59 + 1)), False)
        self.assertIs(is_region(PLANE, (), ("upto", ((0, 1),), 10 ** 59 + 1)), True)
        self.assertIs(is_region(PLANE, (), ("box", (-10 ** 59, 0), (10 ** 59, 1))), True)
        self.assertIs(is_test(PLANE, (), (), ("bad", ((10 ** 59, "01" * 300), (0, "")))), True)
        tree = ALL
        for k in range(28):
            tree = ("not", tree)
        self.assertIs(is_region(PLANE, (), tree), True)

    def test_parameters(self):
        for function, thing in ((is_region, ALL), (is_expression, ("axis", 0))):
            check_parameters(self, function, [("space", PLANE), ("names", ("a",)), ("thing", thing)], {"names": WRONG_NAMES})
        check_parameters(self, is_sum, [("space", PLANE), ("fields", ("a",)), ("thing", SUM)], {"fields": WRONG_NAMES})
        check_parameters(self, is_test, [("space", PLANE), ("regions", ("a",)), ("fields", ()), ("thing", BAD)],
                         {"regions": WRONG_NAMES, "fields": WRONG_NAMES})
        check_parameters(self, is_plan, [("thing", PLAN)], {})


class PlanKindTest(unittest.TestCase):

    def check(self, expected, **told):
        names = ("dims", "rounds", "cubes", "deep", "regions", "region", "fields", "worths", "wishes")
        plan = tuple(told.get(name, part) for name, part in zip(names, PLAN))
        self.assertIs(is_plan(plan), expected, told)

    def test_numbers(self):
        self.check(True)
        for dims in (0, 1, 4, True, None, "2", (2,)):
            self.check(False, dims=dims, cubes=1, deep=0)
        for rounds in range(-1, 8):
            self.check(0 <= rounds <= 5, rounds=rounds, deep=0)
            for deep in (0, 2 * rounds, 2 * rounds + 1, 3 * rounds):
                self.check(0 <= rounds <= 5 and deep <= 2 * rounds, rounds=rounds, deep=deep)
                self.check(0 <= rounds <= 5 and deep <= 3 * rounds, dims=3, cubes=1, rounds=rounds, deep=deep)
        for cubes in range(-1, 11):
            self.check(1 <= cubes <= 8, cubes=cubes)
            self.check(1 <= cubes <= 4, cubes=cubes, dims=3)
        for value in (True, False, None, "1", (1,), -1):
            self.check(False, rounds=value, deep=0)
            self.check(False, cubes=value)
            self.check(False, deep=value)

    def test_trees(self):
        named = ("name", "a")
        self.check(True, regions=(), region=ALL, wishes=())
        self.check(False, regions=(("a", ("name", "b")), ("b", ALL)), region=ALL, wishes=())
        self.check(False, regions=(("a", named),), region=ALL, wishes=())
        self.check(False, regions=(("a", ALL), ("a", ALL)), region=ALL, wishes=())
        self.check(False, regions=(("all", ALL),), region=ALL, wishes=())
        self.check(False, regions=(("a", ALL, 1),), region=ALL, wishes=())
        self.check(False, regions=[("a", ALL)], region=ALL, wishes=())
        self.check(False, regions=(["a", ALL],), region=ALL, wishes=())
        self.check(False, regions=(), region=named, wishes=())
        self.check(False, region=("name", "f"))
        self.check(False, region=None)
        self.check(False, fields=(("f", ("field", "f")),), worths=(), wishes=())
        self.check(False, fields=(("f", ("field", "a")),), worths=(), wishes=())
        self.check(False, fields=(("f", ("axis", 2)),), worths=(), wishes=())
        self.check(False, fields=None, worths=(), wishes=())
        self.check(False, worths=(("w", ("sum", ((1, ("least", "a")),))),))
        self.check(False, worths=(("w", BAD),))
        self.check(False, worths=(("w",),))
        self.check(False, worths=(("W", SUM),))
        self.check(False, worths=[("w", SUM)])
        self.check(False, wishes=(("v", ("in", "f")),))
        self.check(False, wishes=(("v", ("in", "w")),))
        self.check(False, wishes=(("v", SUM),))
        self.check(False, wishes=(("x", BAD),))
        self.check(False, wishes=(("v", ("has", (0, 0, 0))),))

    def test_names_in_all_four(self):
        self.check(True, worths=(("w", SUM), ("w2", SUM)))
        self.check(False, worths=(("w", SUM), ("w", SUM)))
        self.check(False, wishes=(("v", BAD), ("v", BAD)))
        for name in ("a", "b", "f", "g"):
            self.check(False, worths=((name, SUM),), wishes=())
            self.check(False, wishes=((name, BAD),), worths=())
        self.check(False, wishes=(("w", BAD),))
        self.check(False, fields=(("a", ("axis", 0)),), worths=(), wishes=())

    def test_other_things(self):
        for thing in ODDS + (PLAN[:8], PLAN + (1,), list(PLAN), deep(PLAN, 20), (PLAN,), tuple([None] * 9)):
            self.assertIs(is_plan(thing), False)


if __name__ == "__main__":
    unittest.main()
