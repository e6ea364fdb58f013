"""Tests: whether they are true of blocks, and how they are put together."""

from wholefaces.checks import demand
from wholefaces.frames import demand_block, is_test_of
from wholefaces.members import name_made
from wholefaces.quantities import sum_made
from wholefaces.quotients import less
from wholefaces.regions import status_made
from wholefaces.treeparts import JOINS
from wholefaces.weights import holds_made


def comparison_holds(mark, one, other):
    """Whether the mark stands rightly between two quotients."""
    if one == other:
        return mark in ("<=", "=", ">=")
    return mark in (("<", "<=") if less(one, other) else (">", ">="))


def atom_holds(frame, test, name, block):
    """Whether a test that is not put together is true of the block with this name."""
    word, part = test[0], test[1]
    generation = len(name[1])
    if word == "bad":
        return name not in part
    if word == "corner":
        return part in block
    if word == "has":
        return holds_made(block, part + (1,))
    if word == "compare":
        one = sum_made(frame, test[2], block, generation)
        return comparison_holds(part, one, sum_made(frame, test[3], block, generation))
    return status_made(frame[2], ("name", part), block, generation) == word


def test_holds(frame, test, name, block):
    """Whether a test is true of the block with this name."""
    word = test[0]
    if word not in JOINS:
        return atom_holds(frame, test, name, block)
    one = test_holds(frame, test[1], name, block)
    if word == "not":
        return not one
    # The other part counts only where the one does not decide.
    if one == (word == "or"):
        return one
    return test_holds(frame, test[2], name, block)


def is_good(frame, test, block):
    """Whether the test is true of the block."""
    demand(is_test_of(frame, test), "test")
    generation = demand_block(frame, block)
    return test_holds(frame, test, name_made(frame[0], block, generation), block)


def all_of(tests):
    """One test that is true where all of these are."""
    demand(isinstance(tests, tuple), "tests")
    if len(tests) == 0:
        return ("bad", ())
    joined = tests[0]
    for test in tests[1:]:
        joined = ("and", joined, test)
    return joined


def sum_has_error(parts):
    """Whether an error stands in a sum."""
    return any([quantity[0] == "error" for _, quantity in parts[1]])


def has_error(test):
    """Whether an error stands in the test."""
    if test[0] == "compare":
        return sum_has_error(test[2]) or sum_has_error(test[3])
    return test[0] in JOINS and any([has_error(part) for part in test[1:]])
