"""Whether any value is a region, an expression, a sum, a test, or a plan."""

from wholefaces.checks import demand
from wholefaces.kinds import is_number, is_pair
from wholefaces.treeparts import expression_fits, fields_fit, names_in, region_fits, regions_fit, sum_fits, test_fits
from wholefaces.wordnames import are_word_names, is_word_name

PLAN_LENGTH = 9
MOST_ROUNDS = 5


def is_region(space, names, thing):
    """Whether the thing is a region with these names."""
    demand(are_word_names(names), "names")
    return region_fits(space[0], names, thing)


def is_expression(space, names, thing):
    """Whether the thing is an expression with these names."""
    demand(are_word_names(names), "names")
    return expression_fits(space[0], names, thing)


def is_sum(space, fields, thing):
    """Whether the thing is a sum with these names of fields."""
    demand(are_word_names(fields), "fields")
    return sum_fits(space[0], fields, thing)


def is_test(space, regions, fields, thing):
    """Whether the thing is a test with these names of regions and of fields."""
    demand(are_word_names(regions), "regions")
    demand(are_word_names(fields), "fields")
    return test_fits(space[0], regions, fields, thing)


def most_cubes(dims):
    """How many cubes a plan has at most."""
    return 8 if dims == 2 else 4


def are_plan_numbers(dims, rounds, cubes, deep):
    """Whether these are the first four entries of a plan."""
    if not is_number(dims) or dims not in (2, 3) or not is_number(rounds) or rounds > MOST_ROUNDS:
        return False
    if not is_number(cubes) or not 1 <= cubes <= most_cubes(dims):
        return False
    return is_number(deep) and deep <= dims * rounds


def are_named(thing):
    """Whether the thing is a tuple of pairs of a word name and something."""
    return isinstance(thing, tuple) and all([is_pair(pair) and is_word_name(pair[0]) for pair in thing])


def is_plan(thing):
    """Whether the thing is a plan."""
    if not isinstance(thing, tuple) or len(thing) != PLAN_LENGTH:
        return False
    dims, rounds, cubes, deep, regions, region, fields, worths, wishes = thing
    if not are_plan_numbers(dims, rounds, cubes, deep):
        return False
    if not regions_fit(dims, regions) or not fields_fit(dims, fields):
        return False
    if not are_named(worths) or not are_named(wishes) or not region_fits(dims, names_in(regions), region):
        return False
    names = names_in(regions + fields + worths + wishes)
    if len(set(names)) != len(names):
        return False
    if not all([sum_fits(dims, names_in(fields), worth) for _, worth in worths]):
        return False
    return all([test_fits(dims, names_in(regions), names_in(fields), wish) for _, wish in wishes])
