"""Every name of the interface stands in its file, with its parameters."""

import importlib
import inspect
import unittest

INTERFACE = {
    "kinds": ["is_integer(thing)", "is_number(thing)", "is_quotient(thing)", "is_space(thing)",
              "is_point(space, thing)", "is_new(space, thing)", "is_place(space, thing)", "is_body(space, thing)"],
    "quotients": ["quotient_of(top, bottom)", "plus(one, other)", "minus(one, other)", "times(one, other)",
                  "over(one, other)", "less(one, other)"],
    "places": ["place_of(space, numbers, bottom)", "point_place(space, point)",
               "between(space, place, other, moment)", "mean_place(space, points)"],
    "pointtexts": ["quotient_line(quotient)", "point_line(space, point)", "place_line(space, place)",
                   "read_quotient(text)", "read_point(space, text)", "read_place(space, text)"],
    "seats": ["grain_of(space, point)", "open_of(space, point)", "level_of(space, point)",
              "generation_of(space, point)", "seat_of(space, point)", "tips_of(space, point)",
              "seat_corners(space, point)"],
    "rings": ["whole_ring(space, point)", "whole_needs(space, point)"],
    "gaps": ["gap_between(one, other)", "seat_gap(space, point, other)", "cube_of(space, level, place)",
             "cube_box(space, level, low)"],
    "orders": ["key_of(space, point)", "in_order(space, points)"],
    "roots": ["cube_roots(space, cube)", "is_root(space, thing)", "root_cube(space, root)"],
    "halving": ["generation_in(space, block)", "middle_of(space, block)", "tips_in(space, block)",
                "halves_of(space, block)"],
    "parents": ["is_block(space, thing)", "root_of(space, block)", "path_of(space, block)",
                "block_at(space, root, path)", "parent_of(space, block)", "ancestor_of(space, block, generation)",
                "comes_of(space, block, other)", "ordered(space, body)", "own_cube(space, block)"],
    "weights": ["weights_in(body, place)", "blend(body, weights)", "holds(body, place)", "carrier_in(body, place)"],
    "measures": ["measure_of(body)", "is_flat(body)"],
    "edges": ["half_way(space, block, one, other)", "road_to(space, block, one, other)"],
    "angles": ["lengths_of(body)", "cosine_of(body, one, other)", "degrees_of(body, one, other)",
               "angles_of(space, block)"],
    "families": ["family_of(space, block, generation)", "down_to(space, block, place, generation)"],
    "heldpoints": ["held_points(space, block, low, high)"],
    "words": ["words_of(text)"],
    "treekinds": ["is_region(space, names, thing)", "is_expression(space, names, thing)",
                  "is_sum(space, fields, thing)", "is_test(space, regions, fields, thing)", "is_plan(thing)"],
    "regiontexts": ["read_region(space, names, text)", "region_line(region)"],
    "exprtexts": ["read_expression(space, names, text)", "expression_line(expression)"],
    "testtexts": ["read_sum(space, fields, text)", "sum_line(parts)", "read_test(space, regions, fields, text)",
                  "test_line(test)"],
    "plantexts": ["read_plan(text)", "plan_text(plan)"],
    "regions": ["place_in(space, regions, region, place)", "halfwise(space, regions, region, block)",
                "status_of(space, regions, region, block)"],
    "fieldvalues": ["value_of(fields, expression, point)", "field_at(frame, field, point)"],
    "solids": ["is_solid(thing)", "solid_of(space, *roots)", "solid_from(space, cubes, regions, region)"],
    "members": ["holds_point(solid, point)", "ring_of(solid, point)", "needs_of(solid, point)", "name_of(solid, block)",
                "block_named(solid, name)", "points_below(solid, generation)", "names_upto(solid, generation)"],
    "borders": ["side_book(bodies)", "border_sides(bodies)", "pieces_of(bodies)", "euler_of(bodies)", "solid_measure(solid)"],
    "frames": ["is_frame(thing)", "frame_of(plan)"],
    "closing": ["is_closed(solid, thing)", "missing_at(solid, points)", "closure_of(solid, points)", "greatest_within(solid, points)"],
    "meshclasses": ["Mesh(solid, lot)"],
    "lattice": ["is_finer(mesh, other)", "meet_of(mesh, other)", "join_of(mesh, other)"],
    "counts": ["many_of(solid, lot)", "by_generation(mesh)", "weight_of(mesh)"],
    "deeds": ["halve_step(mesh, point)", "join_step(mesh, point)", "deeds_between(mesh, other)", "done_deeds(mesh, deeds)"],
    "blocksums": ["sum_over(mesh, table)", "gain_of(solid, table, point)", "sum_by_points(mesh, table)"],
    "cuttings": ["is_cutting(solid, thing)", "leaves_of(solid, cutting)", "cutting_of(mesh)", "middles_of(solid, cutting)",
                 "loose_corners(solid, cutting)", "half_corners(solid, cutting)"],
    "coarse": ["over_of(solid, cutting)", "under_of(solid, cutting)"],
    "plains": ["plain_cubes(solid, cutting)", "starred_of(solid, lot)", "sitting_by(solid, cutting, point)", "level_costs(solid, cutting)"],
    "tales": ["is_tale(solid, thing)", "told_lot(solid, tale)", "births_of(solid, tale)", "tale_chain(solid, tale, point)",
              "lets_tale(solid, tale, point, thing)"],
    "quantities": ["quantity_of(frame, quantity, block)", "sum_of(frame, parts, block)", "error_of(frame, field, block)",
                   "fine_points(frame, block)"],
    "goodness": ["is_good(frame, test, block)", "all_of(tests)", "has_error(test)"],
    "mustclasses": ["Musts(frame, test)"],
    "reaching": ["rounds_from(musts, points)", "reached_from(musts, points)", "chain_from(musts, points, thing)",
                 "forced_rounds(musts)", "forced_of(musts)", "forced_chain(musts, thing)"],
    "extremes": ["least_of(musts)", "greatest_of(musts)", "first_bad(musts, lot)", "is_passing(musts, thing)"],
    "answers": ["standing_of(musts, point)", "either(musts, points, others)", "least_with(musts, points, others)",
                "greatest_with(musts, points, others)", "parted_by(musts, other)"],
    "depths": ["least_deep(solid, regions, fields, test)"],
    "clumps": ["clumps_of(musts)", "steps_between(musts, lot, other)"],
    "papers": ["paper_of(musts)", "lets_paper(frame, test, thing)", "refusal_of(musts)", "lets_refusal(frame, test, thing)"],
    "settling": ["kept_reasons(musts, reasons)", "settled_reasons(musts, reasons)"],
    "workclasses": ["Work(musts)"],
    "wishclasses": ["Wishes(frame)"],
    "blame": ["blame_of(frame, tests, thing)"],
    "handclasses": ["Hands(frame, test, owners)"],
    "handletters": ["part_of(hands, hand)", "joined_of(hands)", "hands_told(frame, test, owners, deeds)"],
    "locating": ["holders_of(mesh, place)", "first_holder(mesh, place)", "carrier_of(mesh, place)"],
    "beside": ["beside_of(mesh, name, corner)", "border_of(mesh)", "round_point(mesh, point)"],
    "walks": ["walk_of(mesh, place, other)"],
    "meeting": ["common_place(one, other)", "ill_met(body, other)", "face_to_face(bodies)"],
    "filling": ["part_in(body, other)", "fills(solid, bodies)"],
    "knowing": ["known_lot(solid, bodies)"],
    "straight": ["straight_at(mesh, fields, field, place)"],
    "fine": ["errors_over(mesh, fields, field, deep)", "nearest_lot(frame, field, tolerance)"],
    "carrying": ["surplus_of(solid, fields, field, point)", "carrying_lot(frame, field)", "thinned_lot(frame, field, most)"],
    "integrals": ["total_of(mesh, fields, field)", "total_by_points(mesh, fields, field)"],
    "bounds": ["parts_at(mesh, fields, field, deep, place)", "bound_at(mesh, fields, field, deep, place)"],
    "skins": ["skin_of(mesh, fields, field, c)", "skin_sides(mesh, fields, field, c)",
              "crossing_of(space, fields, field, c, inner, outer)"],
    "shares": ["share_above(quotients, c)", "volume_above(mesh, fields, field, c)"],
    "abovepieces": ["pieces_above(mesh, fields, field, c)", "inner_parts(mesh, fields, field, c)"],
    "worths": ["block_worths(frame, parts)", "field_worths(frame, field)", "worth_of(solid, worths, lot)",
               "value_of_lot(solid, worths, price, lot)"],
    "flows": ["is_flow(musts, thing)", "own_table(musts, worths, price, flow)"],
    "bestlots": ["best_of(musts, worths, price)"],
    "bestpapers": ["lets_best(musts, worths, price, thing)"],
    "stairs": ["stairs_of(musts, worths)"],
    "stairpapers": ["stair_paper(musts, worths)", "lets_stairs(musts, worths, thing)", "most_worth(musts, worths, many)"],
    "bits": ["bits_of(mesh)", "lot_of_bits(solid, bits)"],
    "forms": ["form_of(mesh)", "read_form(text)"],
    "receivers": ["sending_of(mesh)", "Receiver(solid)"],
    "journals": ["read_journal(text)", "Journal()"],
    "deskwords": ["read_line(plan, line)"],
    "desk": ["desk_of(plan, journal)", "Desk(plan)"],
    "errors": ["InvalidPaper(word, at)", "NotUsable(word, at)", "NotClosed(point, need)", "StillNeeded(point, other)", "CutRoot(root)",
               "EmptySolid()", "Refused(chain)", "NoDeed(place)", "NotStanding(name)", "InvalidText(line, at)", "InvalidForm(line, at)"],
}

# The methods of the classes, each defined in the class itself.
METHODS = {
    "meshclasses.Mesh": ["told(self)", "blocks(self)", "block_names(self)", "corners(self)", "has(self, point)", "__contains__(self, thing)",
                         "__len__(self)", "__eq__(self, other)", "__and__(self, other)", "__or__(self, other)"],
    "mustclasses.Musts": ["told(self)", "bad(self, block)", "all_points(self)", "sources(self)", "of(self, point)", "why_source(self, thing)",
                          "why(self, point, thing)", "__eq__(self, other)"],
    "workclasses.Work": ["waiting(self)", "do(self, place)", "jobs(self)", "lot(self)", "done(self)", "refuses(self)"],
    "wishclasses.Wishes": ["wish(self, name, test)", "change(self, name, test)", "drop(self, name)", "names(self)", "test_of(self, name)",
                           "lot(self)", "mesh(self)", "reasons(self)", "last(self)", "why(self, point)"],
    "handclasses.Hands": ["known(self, hand)", "waiting(self, hand)", "learn(self, hand, place)", "letters(self)", "bring(self, place)",
                          "lose(self, place)", "double(self, place)", "resend(self, hand)", "fall(self, hand, many)", "refuses(self, hand)",
                          "calm(self)"],
    "receivers.Receiver": ["came(self, point)", "points(self)", "shown(self)", "wanted(self)"],
    "journals.Journal": ["tell(self, line)", "lines(self)", "text(self)"],
    "desk.Desk": ["ask(self, line)"],
}


class InterfaceTest(unittest.TestCase):

    def test_names_and_parameters(self):
        for name, told in INTERFACE.items():
            module = importlib.import_module(f"wholefaces.{name}")
            for line in told:
                with self.subTest(name=name, line=line):
                    function = getattr(module, line.partition("(")[0])
                    self.assertEqual(function.__name__ + str(inspect.signature(function)), line)
                    self.assertEqual(function.__module__, f"wholefaces.{name}")

    def test_methods(self):
        for place, told in METHODS.items():
            name, _, known = place.partition(".")
            found = vars(getattr(importlib.import_module(f"wholefaces.{name}"), known))
            for line in told:
                with self.subTest(place=place, line=line):
                    method = found[line.partition("(")[0]]
                    self.assertEqual(method.__name__ + str(inspect.signature(method)), line)


if __name__ == "__main__":
    unittest.main()
