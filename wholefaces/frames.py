"""Frames: a solid, how deep its blocks are looked at, regions and fields."""

from wholefaces.arrangements import all_choices
from wholefaces.checks import demand
from wholefaces.kinds import is_number
from wholefaces.members import is_member, member_generation
from wholefaces.nodes import top_of
from wholefaces.seats import point_generation
from wholefaces.solids import is_solid, solid_from
from wholefaces.treekinds import is_plan
from wholefaces.treeparts import fields_fit, names_in, regions_fit, test_fits

FRAME_LENGTH = 4


def are_apart(regions, fields):
    """Whether no name is both a region's and a field's."""
    names = names_in(regions)
    return not any([name in names for name in names_in(fields)])


def is_frame(thing):
    """Whether any thing is a frame."""
    if not isinstance(thing, tuple) or len(thing) != FRAME_LENGTH:
        return False
    solid, deep, regions, fields = thing
    if not is_solid(solid) or not is_number(deep) or deep > top_of(solid):
        return False
    dims = solid[0][0]
    return regions_fit(dims, regions) and fields_fit(dims, fields) and are_apart(regions, fields)


def frame_of(plan):
    """The frame of a plan: its solid is put together of the roots of its cubes that are in its region."""
    demand(is_plan(plan), "plan")
    dims, rounds, cubes, deep, regions, region, fields = plan[:7]
    numbers = tuple(range(cubes))
    return solid_from((dims, rounds), tuple(all_choices([numbers] * dims)), regions, region), deep, regions, fields


def is_test_of(frame, thing):
    """Whether any thing is a test of the frame."""
    return test_fits(frame[0][0][0], names_in(frame[2]), names_in(frame[3]), thing)


def frame_generation(frame, thing):
    """The generation of the block of the frame's solid, at most deep, that any thing is; None if it is none."""
    generation = member_generation(frame[0], thing)
    if generation is None or generation > frame[1]:
        return None
    return generation


def demand_block(frame, block):
    """The generation of the parameter block; raises NotUsable if it is no block of a generation at most deep."""
    generation = frame_generation(frame, block)
    demand(generation is not None, "block")
    return generation


def is_frame_point(frame, thing):
    """Whether any thing is a point of the frame's solid, of a generation below deep."""
    solid, deep = frame[0], frame[1]
    return is_member(solid, thing) and point_generation(solid[0], thing) < deep
