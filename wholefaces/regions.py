"""Which places and blocks are in a region."""

from wholefaces.blockparts import halves_made
from wholefaces.checks import demand
from wholefaces.halving import block_generation
from wholefaces.kinds import is_place
from wholefaces.treeparts import names_in, region_fits, regions_fit

TURNED = {"in": "out", "out": "in", "unsure": "unsure"}


def signed_sum(terms, numbers):
    """The sum of the numbers in the directions of the terms, with their signs."""
    return sum([sign * numbers[axis] for axis, sign in terms])


def box_has(lows, highs, place):
    """Whether a box has a place."""
    bottom = place[-1]
    return all([low * bottom <= number <= high * bottom for low, number, high in zip(lows, place, highs)])


def tree_has(known, region, place):
    """Whether a region has a place, this being known of the names in it."""
    word = region[0]
    if word == "box":
        return box_has(region[1], region[2], place)
    if word == "upto":
        return signed_sum(region[1], place) <= region[2] * place[-1]
    if word == "name":
        return known[region[1]]
    if word == "not":
        return not tree_has(known, region[1], place)
    if word == "and":
        return tree_has(known, region[1], place) and tree_has(known, region[2], place)
    if word == "or":
        return tree_has(known, region[1], place) or tree_has(known, region[2], place)
    return True


def region_has(regions, region, place):
    """Whether a region has a place."""
    known = {}
    for name, tree in regions:
        known[name] = tree_has(known, tree, place)
    return tree_has(known, region, place)


def box_answer(lows, highs, block):
    """What can be told at once of a block and a box: "in", "out" or "unsure"."""
    if all([box_has(lows, highs, corner + (1,)) for corner in block]):
        return "in"
    for i in range(len(lows)):
        numbers = [corner[i] for corner in block]
        if max(numbers) <= lows[i] or min(numbers) >= highs[i]:
            return "out"
    return "unsure"


def upto_answer(terms, bound, block):
    """What can be told at once of a block and an upto: "in", "out" or "unsure"."""
    totals = [signed_sum(terms, corner) for corner in block]
    if max(totals) <= bound:
        return "in"
    return "out" if min(totals) >= bound else "unsure"


def joined_answer(one, other, strong):
    """What two answers tell together, where one alone that is strong decides."""
    if strong in (one, other):
        return strong
    return one if one == other else "unsure"


def tree_answer(known, region, block):
    """What can be told at once of a block and a region, this being known of the names in it."""
    word = region[0]
    if word == "box":
        return box_answer(region[1], region[2], block)
    if word == "upto":
        return upto_answer(region[1], region[2], block)
    if word == "name":
        return known[region[1]]
    if word == "all":
        return "in"
    one = tree_answer(known, region[1], block)
    if word == "not":
        return TURNED[one]
    other = tree_answer(known, region[2], block)
    return joined_answer(one, other, "out" if word == "and" else "in")


def answer_at_once(regions, region, block):
    """What can be told at once of a block and a region: "in", "out" or "unsure"."""
    known = {}
    for name, tree in regions:
        known[name] = tree_answer(known, tree, block)
    return tree_answer(known, region, block)


def status_made(regions, region, block, generation):
    """Whether a block of this generation is in, out of, or cut by a region; at generation top it is never unsure."""
    answer = answer_at_once(regions, region, block)
    if answer != "unsure":
        return answer
    low, high = halves_made(block, generation)
    status = status_made(regions, region, low, generation + 1)
    if status != "cut" and status_made(regions, region, high, generation + 1) == status:
        return status
    return "cut"


def demand_region(space, regions, region):
    """Raises NotUsable unless these are regions and a region with their names."""
    demand(regions_fit(space[0], regions), "regions")
    demand(region_fits(space[0], names_in(regions), region), "region")


def place_in(space, regions, region, place):
    """Whether the region has the place."""
    demand_region(space, regions, region)
    demand(is_place(space, place), "place")
    return region_has(regions, region, place)


def halfwise(space, regions, region, block):
    """Whether the block is in or out of the region, as far as this can be told at once, otherwise "unsure"."""
    demand_region(space, regions, region)
    block_generation(space, block)
    return answer_at_once(regions, region, block)


def status_of(space, regions, region, block):
    """Whether the block is "in", "out" of, or "cut" by the region."""
    demand_region(space, regions, region)
    generation = block_generation(space, block)
    return status_made(regions, region, block, generation)
