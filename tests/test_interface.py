"""Every name of the interface stands in its file, with its parameters."""

import importlib
import inspect
import unittest

INTERFACE = {
    "kinds": ["is_integer(thing)", "is_number(thing)", "is_quotient(thing)", "is_space(thing)",
              "is_point(space, thing)", "is_new(space, thing)", "is_place(space, thing)", "is_body(space, thing)"],
    "quotients": ["quotient_of(top, bottom)", "plus(one, other)", "minus(one, other)", "times(one, other)",
                  "over(one, other)", "less(one, other)"],
    "places": ["place_of(space, numbers, bottom)", "point_place(space, point)",
               "between(space, place, other, moment)", "mean_place(space, points)"],
    "pointtexts": ["quotient_line(quotient)", "point_line(space, point)", "place_line(space, place)",
                   "read_quotient(text)", "read_point(space, text)", "read_place(space, text)"],
    "seats": ["grain_of(space, point)", "open_of(space, point)", "level_of(space, point)",
              "generation_of(space, point)", "seat_of(space, point)", "tips_of(space, point)",
              "seat_corners(space, point)"],
    "rings": ["whole_ring(space, point)", "whole_needs(space, point)"],
    "gaps": ["gap_between(one, other)", "seat_gap(space, point, other)", "cube_of(space, level, place)",
             "cube_box(space, level, low)"],
    "orders": ["key_of(space, point)", "in_order(space, points)"],
    "roots": ["cube_roots(space, cube)", "is_root(space, thing)", "root_cube(space, root)"],
    "halving": ["generation_in(space, block)", "middle_of(space, block)", "tips_in(space, block)",
                "halves_of(space, block)"],
    "parents": ["is_block(space, thing)", "root_of(space, block)", "path_of(space, block)",
                "block_at(space, root, path)", "parent_of(space, block)", "ancestor_of(space, block, generation)",
                "comes_of(space, block, other)", "ordered(space, body)", "own_cube(space, block)"],
    "weights": ["weights_in(body, place)", "blend(body, weights)", "holds(body, place)", "carrier_in(body, place)"],
    "measures": ["measure_of(body)", "is_flat(body)"],
    "edges": ["half_way(space, block, one, other)", "road_to(space, block, one, other)"],
    "angles": ["lengths_of(body)", "cosine_of(body, one, other)", "degrees_of(body, one, other)",
               "angles_of(space, block)"],
    "families": ["family_of(space, block, generation)", "down_to(space, block, place, generation)"],
    "heldpoints": ["held_points(space, block, low, high)"],
    "words": ["words_of(text)"],
    "treekinds": ["is_region(space, names, thing)", "is_expression(space, names, thing)",
                  "is_sum(space, fields, thing)", "is_test(space, regions, fields, thing)", "is_plan(thing)"],
    "regiontexts": ["read_region(space, names, text)", "region_line(region)"],
    "exprtexts": ["read_expression(space, names, text)", "expression_line(expression)"],
    "testtexts": ["read_sum(space, fields, text)", "sum_line(parts)", "read_test(space, regions, fields, text)",
                  "test_line(test)"],
    "plantexts": ["read_plan(text)", "plan_text(plan)"],
    "regions": ["place_in(space, regions, region, place)", "halfwise(space, regions, region, block)",
                "status_of(space, regions, region, block)"],
    "fieldvalues": ["value_of(fields, expression, point)", "field_at(frame, field, point)"],
    "solids": ["is_solid(thing)", "solid_of(space, *roots)", "solid_from(space, cubes, regions, region)"],
}


class InterfaceTest(unittest.TestCase):

    def test_names_and_parameters(self):
        for name, told in INTERFACE.items():
            module = importlib.import_module(f"wholefaces.{name}")
            for line in told:
                with self.subTest(name=name, line=line):
                    function = getattr(module, line.partition("(")[0])
                    self.assertEqual(function.__name__ + str(inspect.signature(function)), line)
                    self.assertEqual(function.__module__, f"wholefaces.{name}")


if __name__ == "__main__":
    unittest.main()
