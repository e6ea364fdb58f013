"""Plans as texts, [36]."""

import random
import re
import unittest

from grammar import parted, wrong_at
from test_treekinds import PLAN
from tools import WRONG_TEXTS, check_parameters, check_wrong_text
from trees import random_expression, random_region, random_sum, random_test, spoilt
from wholefaces.errors import InvalidText
from wholefaces.plantexts import plan_text, read_plan
from wholefaces.treekinds import is_plan

TEXT = """space 2
rounds 3
cubes 2
deep 4
region a = box (0, 0) (8, 8)
region b = not a or upto x - y <= -2
solid a and not b
field f = x * x - 2
field g = abs(f)
worth w = 4 - size
worth u = least g
wish v : in a and level < 2
wish t : not bad (r0.1)
"""
WORDS = ("space", "rounds", "cubes", "deep", "region", "solid", "field", "worth", "wish", "a", "b", "f", "g", "w", "v", "n", "=",
         ":", "0", "2", "9", "all", "x", "level", "in", "(", ")", ",", "A", ";")
TREES = {"region": "REGION", "field": "EXPR", "worth": "SUM", "wish": "REGION"}
RESERVED = "space rounds cubes deep region solid field worth wish all box upto not and or x y z min max abs generation " \
    "level stage size low high least most error in out cut has corner bad"


def read_header(line, rows):
    """The words at the beginning of a line, each of which has to satisfy its condition, or the place of the wrong one."""
    pairs, end = parted(line)
    for k, row in enumerate(rows):
        if k == len(pairs):
            return None, end
        if not row(pairs[k][0]):
            return None, pairs[k][1]
    return [word for word, _ in pairs[:len(rows)]], (pairs[len(rows)][1] if len(pairs) > len(rows) else end)


def oracle_error(text):
    """The pair of line and place told for a text, None if it is a plan."""
    lines = text.split("\n")
    numbers, names, done, stage = [], {"region": [], "field": [], "worth": [], "wish": []}, False, 0
    for k, line in enumerate(lines):
        if line.replace(" ", "") == "":
            continue
        if len(numbers) < 4:
            word = ("space", "rounds", "cubes", "deep")[len(numbers)]
            bounds = [(2, 3), (0, 5), None, None][len(numbers)]
            if bounds is None and word == "cubes":
                bounds = (1, 8 if numbers[0] == 2 else 4)
            elif bounds is None:
                bounds = (0, numbers[0] * numbers[1])
            right = lambda told: re.fullmatch("0|[1-9][0-9]{0,6}", told) and bounds[0] <= int(told) <= bounds[1]
            header, at = read_header(line, [lambda told: told == word, right])
            if header is None or at < len(line):
                return k, at
            numbers.append(int(header[1]))
            continue
        kinds = ["region", "solid"] if not done else ["field", "worth", "wish"][stage:]
        used = [name for row in names.values() for name in row]
        new = lambda told: re.fullmatch("[a-z][a-z0-9]{0,11}", told) and told not in RESERVED.split() + used
        header, at = read_header(line, [lambda told: told in kinds])
        if header is None:
            return k, at
        kind = header[0]
        if kind != "solid":
            mark = ":" if kind == "wish" else "="
            header, at = read_header(line, [lambda told: True, new, lambda told: told == mark])
            if header is None:
                return k, at
        known = {"REGNAME": names["region"], "FIELD": names["field"]}
        known["NAME"] = names["field"] if kind == "field" else names["region"]
        rest = " " * at + line[at:]
        told = wrong_at(rest, TREES.get(kind, "REGION"), "test" if kind in ("worth", "wish") else "region", numbers[0], known)
        if told is not None:
            return k, told
        if kind == "solid":
            done = True
        else:
            names[kind].append(header[1])
            stage = max(stage, ["region", "field", "worth", "wish"].index(kind) - 1)
    return None if done else (len(lines), 0)


def random_plan(rolls):
    """A plan."""
    dims, rounds = rolls.choice((2, 3)), rolls.randrange(6)
    names = iter(rolls.sample(["a", "b2", "c", "d", "e", "f", "g", "h", "abcdefghijkl", "one", "r1"], 10))
    regions, fields, worths, wishes = (), (), (), ()
    for _ in range(rolls.randrange(3)):
        regions += ((next(names), random_region(rolls, dims, [name for name, _ in regions], 2)),)
    for _ in range(rolls.randrange(3)):
        fields += ((next(names), random_expression(rolls, dims, [name for name, _ in fields], 2)),)
    known = [name for name, _ in regions], [name for name, _ in fields]
    for _ in range(rolls.randrange(3)):
        worths += ((next(names), random_sum(rolls, dims, known[1])),)
    for _ in range(rolls.randrange(3)):
        wishes += ((next(names), random_test(rolls, dims, known[0], known[1], 2)),)
    region = random_region(rolls, dims, known[0], 2)
    return (dims, rounds, rolls.randrange(1, 9 if dims == 2 else 5), rolls.randrange(dims * rounds + 1), regions, region,
            fields, worths, wishes)


class PlanTextsTest(unittest.TestCase):

    def check(self, text):
        """The text is read as the oracle tells."""
        error = oracle_error(text)
        if error is None:
            plan = read_plan(text)
            self.assertTrue(is_plan(plan))
            self.assertEqual(read_plan(plan_text(plan)), plan)
        else:
            check_wrong_text(self, read_plan, text, error[1], error[0])

    def test_plans(self):
        plan = read_plan(TEXT)
        self.assertEqual(plan_text(plan), TEXT)
        self.assertEqual(plan[:4], (2, 3, 2, 4))
        self.assertEqual([[name for name, _ in row] for row in (plan[4], plan[6], plan[7], plan[8])],
                         [["a", "b"], ["f", "g"], ["w", "u"], ["v", "t"]])
        self.assertEqual(plan[5], ("and", ("name", "a"), ("not", ("name", "b"))))
        self.assertEqual(read_plan(plan_text(PLAN)), PLAN)
        told = read_plan("space 2\nrounds 2\ncubes 1\ndeep 2\nsolid all\nworth w = 4 - size\n")
        self.assertEqual(told, (2, 2, 1, 2, (), ("all",), (), (("w", ("sum", ((4, ("one",)), (-1, ("size",))))),), ()))
        self.assertEqual(read_plan("space 3\nrounds 0\ncubes 4\ndeep 0\nsolid all"),
                         (3, 0, 4, 0, (), ("all",), (), (), ()))

    def test_loose_texts(self):
        loose = TEXT.replace("\n", "  \n\n   \n").replace(" ", "  ")
        self.assertEqual(read_plan("\n \n" + loose), read_plan(TEXT))
        self.assertEqual(read_plan(TEXT[:-1]), read_plan(TEXT))

    def test_lacking_lines(self):
        for text, line in (("", 1), ("\n", 2), ("   ", 1), (" \n \n", 3), ("space 2", 1), ("space 2\n", 2),
                           ("space 2\nrounds 1\n\n", 4), ("space 2\nrounds 1\ncubes 1\ndeep 1", 4),
                           ("space 2\nrounds 1\ncubes 1\ndeep 1\nregion a = all\n", 6)):
            check_wrong_text(self, read_plan, text, 0, line)

    def test_wrong_lines(self):
        head = "space 2\nrounds 2\ncubes 1\ndeep 2\n"
        full = head + "region a = all\nsolid a\nfield f = x\nworth w = 1\nwish v : in a\n"
        for text, line, at in (
                ("space 4", 0, 6), ("space 1\n", 0, 6), ("space\n", 0, 5), ("  spaces 2", 0, 2), ("space 2 2", 0, 8), ("space 02", 0, 6),
                ("rounds 2", 0, 0), ("space 2\ncubes 1", 1, 0), ("space 2\nrounds 6", 1, 7), ("space 2\n\n rounds -1", 2, 8),
                ("space 2\nrounds 5\ncubes 0", 2, 6), ("space 2\nrounds 5\ncubes 9", 2, 6), ("space 3\nrounds 5\ncubes 5", 2, 6),
                ("space 2\nrounds 2\ncubes 1\ndeep 5", 3, 5), ("space 3\nrounds 2\ncubes 1\ndeep 7", 3, 5),
                ("space 2\nrounds 2\ncubes 1\ndeep 12345678", 3, 5), ("space 2;", 0, 7), ("space ;", 0, 6),
                (head + "solid", 4, 5), (head + "solid b", 4, 6), (head + "solid all all", 4, 10), (head + "region", 4, 6),
                (head + "region x = all", 4, 7), (head + "region a : all", 4, 9), (head + "region a =", 4, 10),
                (head + "region a = a", 4, 11), (head + "region a = all\nregion a = all", 5, 7), (head + "field f = x", 4, 0),
                (head + "solid all\nsolid all", 5, 0), (head + "solid all\nregion a = all", 5, 0), (head + "solid all\nfield f = f", 5, 10),
                (full + "field g = x", 9, 0), (full + "worth g = 1", 9, 0), (full + "wish v : in a", 9, 5),
                (full + "wish a : in a", 9, 5), (full + "wish f : in a", 9, 5), (full + "wish w : in a", 9, 5),
                (full + "wish b = in a", 9, 7), (full + "wish b : in f", 9, 12), (full + "wish abcdefghijklm : in a", 9, 5),
                (full + "wish b : least f", 9, 16), (full + "wish b : least a < 1", 9, 15), (full + "deep 2", 9, 0),
                (head + "solid box (0, 0) (1, 1)\nworth w = low z", 5, 14), (head + "solid upto x - y <= 3", 4, 20),
                ("space 2\nrounds 6\nx", 1, 7), ("\n\n;", 2, 0), ("q", 0, 0), (full + "q q", 9, 0)):
            check_wrong_text(self, read_plan, text, at, line)
            self.assertEqual(oracle_error(text), (line, at))

    def test_changed_lines(self):
        lines = TEXT.split("\n")[:-1]
        for k in range(len(lines)):
            self.check("\n".join(lines[:k] + lines[k + 1:]))
            self.check("\n".join(lines[:k] + [lines[k]] * 2 + lines[k + 1:]))
            for j in range(k):
                self.check("\n".join(lines[:j] + [lines[k]] + lines[j + 1:k] + [lines[j]] + lines[k + 1:]))
            for end in range(len(lines[k])):
                self.check("\n".join(lines[:k] + [lines[k][:end]] + lines[k + 1:]))

    def test_random_plans(self):
        rolls = random.Random(51)
        for _ in range(200):
            plan = random_plan(rolls)
            text = plan_text(plan)
            self.assertEqual(read_plan(text), plan)
            self.assertTrue(text.endswith("\n"))
            self.assertIsNone(oracle_error(text))
            lines = text.split("\n")
            for _ in range(8):
                k = rolls.randrange(len(lines))
                self.check("\n".join(lines[:k] + [spoilt(rolls, lines[k], WORDS)] + lines[k + 1:]))

    def test_parameters(self):
        check_parameters(self, read_plan, [("text", TEXT)], {"text": WRONG_TEXTS})
        wrong = (None, True, TEXT, PLAN[:8], list(PLAN), PLAN + (0,), (4,) + PLAN[1:], PLAN[:3] + (11,) + PLAN[4:])
        check_parameters(self, plan_text, [("plan", PLAN)], {"plan": wrong})
        self.assertRaises(InvalidText, read_plan, "")


if __name__ == "__main__":
    unittest.main()
