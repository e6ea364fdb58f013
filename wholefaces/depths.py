"""The least deep at which some lot passes."""

from wholefaces.charts import BAR
from wholefaces.checks import demand
from wholefaces.frames import are_apart, is_test_of
from wholefaces.goodness import has_error
from wholefaces.mustclasses import Musts
from wholefaces.nodes import top_of
from wholefaces.reaching import forced_chain
from wholefaces.treeparts import fields_fit, regions_fit


def least_deep(solid, regions, fields, test):
    """The least deep, from 0 to top, for which some lot passes; None if there is none."""
    dims = solid[0][0]
    demand(regions_fit(dims, regions), "regions")
    demand(fields_fit(dims, fields) and are_apart(regions, fields), "fields")
    demand(is_test_of((solid, 0, regions, fields), test) and not has_error(test), "test")
    for deep in range(top_of(solid) + 1):
        if forced_chain(Musts((solid, deep, regions, fields), test), BAR) is None:
            return deep
    return None
