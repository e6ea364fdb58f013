"""Quantities of blocks, sums of these, and how far a field is from the straightened one."""

from wholefaces.blockparts import block_middle, halves_made, size_in, tip_place
from wholefaces.checks import demand
from wholefaces.families import both_halves
from wholefaces.fieldvalues import field_value
from wholefaces.frames import demand_block
from wholefaces.orders import in_order
from wholefaces.quotients import plus, quotient_of, times
from wholefaces.treeparts import names_in, quantity_fits, sum_fits
from wholefaces.wordnames import is_name_of


def field_heights(frame, field, points):
    """The values of a field at the points."""
    return [field_value(frame[3], field, point) for point in points]


def halves_with_heights(block, heights, height, generation):
    """The halves of a block, each with the heights over its corners, height being that over the middle."""
    k = tip_place(len(block) - 1, generation)
    low, high = halves_made(block, generation)
    rest = [height] + heights[k + 1:]
    return [(low, heights[:k] + rest), (high, heights[1:k + 1] + rest)]


def error_made(frame, field, block, generation):
    """The error of a block of this generation for a field, a quotient."""
    deep = frame[1]
    # The straight value over a middle is the mean of those over the tips: with this scale all of them are integers.
    scale = 1 << (deep - generation)
    values = {}
    worst = 0
    row = [(block, [scale * value for value in field_heights(frame, field, block)])]
    for now in range(generation, deep):
        k = tip_place(len(block) - 1, now)
        later = []
        for body, heights in row:
            middle = block_middle(body, now)
            if middle not in values:
                values[middle] = scale * field_heights(frame, field, [middle])[0]
            height = (heights[0] + heights[k]) // 2
            worst = max(worst, abs(values[middle] - height))
            later.extend(halves_with_heights(body, heights, height, now))
        row = later
    return quotient_of(worst, scale)


def plain_quantity(space, word, generation):
    """The value of a quantity that hangs on a block's generation alone."""
    if word == "generation":
        return generation
    if word == "level":
        return generation // space[0]
    if word == "stage":
        return generation % space[0]
    if word == "size":
        return size_in(space, generation)
    return 1


def quantity_made(frame, quantity, block, generation):
    """The value of a quantity for a block of this generation, a quotient."""
    word = quantity[0]
    if len(quantity) == 1:
        return plain_quantity(frame[0][0], word, generation), 1
    if word == "error":
        return error_made(frame, quantity[1], block, generation)
    if word in ("low", "high"):
        numbers = [corner[quantity[1]] for corner in block]
    else:
        numbers = field_heights(frame, quantity[1], block)
    return min(numbers) if word in ("low", "least") else max(numbers), 1


def sum_made(frame, parts, block, generation):
    """The value of a sum for a block of this generation, a quotient."""
    total = (0, 1)
    for number, quantity in parts[1]:
        total = plus(total, times((number, 1), quantity_made(frame, quantity, block, generation)))
    return total


def fine_made(frame, block, generation):
    """The fine points of a block of this generation: its corners, and the middles of all that is halved in it."""
    points = list(block)
    family = [block]
    for now in range(generation, frame[1]):
        points.extend([block_middle(body, now) for body in family])
        family = both_halves(family, now)
    return in_order(frame[0][0], tuple(points))


def quantity_of(frame, quantity, block):
    """The value of the quantity for the block."""
    demand(quantity_fits(frame[0][0][0], names_in(frame[3]), quantity), "quantity")
    return quantity_made(frame, quantity, block, demand_block(frame, block))


def sum_of(frame, parts, block):
    """The value of the sum for the block."""
    demand(sum_fits(frame[0][0][0], names_in(frame[3]), parts), "parts")
    return sum_made(frame, parts, block, demand_block(frame, block))


def error_of(frame, field, block):
    """The error of the block for the field."""
    demand(is_name_of(names_in(frame[3]), field), "field")
    return error_made(frame, field, block, demand_block(frame, block))


def fine_points(frame, block):
    """The fine points of the block, in order."""
    return fine_made(frame, block, demand_block(frame, block))
