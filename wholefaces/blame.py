"""Which of some tests force a thing together, while fewer of them do not."""

from wholefaces.arrangements import all_parts
from wholefaces.charts import Chart, bad_names, is_bar, musts_table, sources_made
from wholefaces.checks import demand
from wholefaces.frames import is_frame_point, is_test_of
from wholefaces.reaching import found_from


def are_tests(frame, thing):
    """Whether any thing is a tuple of tests of the frame."""
    return isinstance(thing, tuple) and all([is_test_of(frame, test) for test in thing])


def is_thing_of(frame, thing):
    """Whether any thing is a point of a generation below deep, or the bar."""
    return is_bar(thing) or is_frame_point(frame, thing)


def forces(chart, bad, thing):
    """Whether a thing is forced where just the blocks with these names are bad."""
    return thing in found_from(musts_table(chart, bad), sources_made(chart, bad))


def joined(rows):
    """All names of the rows, as a dict of True."""
    return {name: True for row in rows for name in row}


def has_part(places, found):
    """Whether all places of one of those found are among these places."""
    return any([all([place in places for place in part]) for part in found])


def blame_of(frame, tests, thing):
    """All ascending tuples of places whose tests force the thing, while those at only some of them never do."""
    demand(are_tests(frame, tests), "tests")
    demand(is_thing_of(frame, thing), "thing")
    chart = Chart(frame[0], frame[1])
    bad = [bad_names(frame, test, chart) for test in tests]
    found = []
    for many in range(1, len(tests) + 1):
        for places in all_parts(tuple(range(len(tests))), many):
            if not has_part(places, found) and forces(chart, joined([bad[place] for place in places]), thing):
                found.append(places)
    return tuple(found)
