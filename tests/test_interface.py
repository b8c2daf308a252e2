import importlib
import inspect
import unittest

FUNCTIONS = {
    "trees": ["is_node(thing)", "behind_put(path, at)", "behind_take(path, at)"],
    "reading": ["read_tree(text)", "slips_of(text)", "write_tree(tree)"],
    "selectors": ["is_selector(thing)", "is_matched(tree, path, selector)", "matched_paths(tree, selector)",
                  "weight_of(selector)", "given_paths(tree, path, selector)", "is_given(tree, path, selector, thing)"],
    "spines": ["spine_of(tree, path)", "is_spine(thing)", "tree_along(spine)", "path_along(spine)",
               "is_spine_matched(spine, selector)"],
    "nests": ["is_nest(thing)", "is_of_nest(tree, nest)"],
    "alltrees": ["least_spine(has, lacks, nest=None)", "is_never(selector, nest=None)", "is_within(one, other, nest=None)",
                 "spine_apart(one, other, nest=None)"],
    "papers": ["closed_list(has, lacks, nest=None)", "is_closed(has, lacks, nest, thing)"],
    "lots": ["lots_of(selectors, nest=None)"],
    "lessened": ["parts_of(selector)", "without_part(selector, part)", "idle_parts(selector, nest=None)",
                 "lessened_selector(selector, nest=None)"],
    "winners": ["asked_rules(sheet, tree, path, word, width)", "winner_of(sheet, tree, path, word, width)"],
    "worths": ["own_worth(sheet, tree, path, word, width)", "ringed_names(sheet, tree, path, width)",
               "worth_of(sheet, tree, path, word, width)", "all_worths(sheet, tree, width)"],
    "whys": ["why_worth(sheet, tree, path, word, width)", "worth_by(sheet, reasons)"],
    "standings": ["can_have(sheet, wishes)", "worths_coming(sheet, word)", "worths_given(sheet, wishes, word)",
                  "surely_has(sheet, wishes, others)", "can_hold(sheet, upper, lower)"],
    "deads": ["wins_ever(sheet, number, word)", "dead_ones(sheet)", "alive_sheet(sheet)"],
    "reaches": ["reach_of(sheet, klass)", "reach_shown(sheet, klass, where)"],
    "boxes": ["way_of(dressed, path)", "shown_as(dressed, path)", "box_at(dressed, path)", "box_tree(dressed)", "all_boxes(dressed)"],
    "homes": ["home_of(dressed, path)", "firm_above(dressed, path)", "turned_by(dressed, path)"],
    "shapes": ["shape_of(dressed)", "is_shape(thing)", "least_tree(shape)"],
    "forms": ["is_form(thing)", "form_worth(form, width)", "form_sum(one, other)", "form_times(form, share)",
              "greatest_form(forms)", "least_form(forms)"],
    "across": ["across_of(told, room)", "is_across(told, room, thing)", "in_rooms(told)", "fits_from(told)", "parted_from(told, other)"],
    "stacks": ["stack_of(rows)", "least_stack(margins)", "greatest_stack(margins)", "is_least_order(margins)", "greatest_order(margins)"],
    "words": ["is_run(thing)", "words_of(run)"],
    "lines": ["lines_in(run, room)", "line_sizes(run, room)", "height_in(run, room)", "is_breaking(run, room, thing)",
              "is_chain(run, room, thing)", "chain_above(run, room, many)", "least_room(run, many)", "all_rooms(run)",
              "taller_rooms(run)", "rooms_part(one, other)", "same_end(one, other)", "meeting_in(one, other, room)",
              "all_meetings(one, other)"],
    "floats": ["laid_out(run, room, align)", "laid_height(run, room)", "why_there(run, room, number)", "all_shapes(run)",
               "lowest_rooms(run)", "run_need(run)", "run_wish(run)"],
    "rows": ["rows_part(one, other)"],
    "needs": ["need_of(dressed, path)", "wish_of(dressed, path)"],
    "columns": ["same_placings(one, other)", "placing_apart(one, other)", "columns_part(one, other)"],
    "stretches": ["is_stretch(thing)", "are_stretches(thing)", "gathered_stretches(some)", "both_stretches(one, other)", "rest_of(one)",
                  "is_width_in(some, width)", "first_width(some)", "where_upto(one, other)", "where_below(one, other)"],
    "layouts": ["layout_at(design, width)", "height_at(design, width)", "sticking_out(design, width)", "box_with(design, width, box)",
                "lines_at(design, width, path)"],
    "faults": ["first_fault(design, width, thing)"],
    "wide": ["page_pieces(design)", "page_turns(design)", "pieces_about(design, width, path, name)"],
    "wanted": ["is_wish(thing)", "meets_wish(design, wish, width)", "widths_where(design, wish)", "first_where(design, wish)",
               "where_about(design, width, path, name, wish)"],
    "twos": ["alike_widths(one, other)", "first_unlike(one, other)", "unlike_boxes(one, other)"],
    "tall": ["lowest_height(design)", "taller_though_wider(design)", "settled_from(design)", "roomy_from(design)"],
    "pictures": ["sign_at(picture, x, y)", "shape_at(picture, x, y)", "painted_page(design, width)"],
    "regions": ["is_region(thing)", "region_of(rectangles)", "joined_regions(one, other)", "common_region(one, other)", "left_region(one, other)",
                "region_area(region)", "region_around(region)"],
    "covers": ["seen_region(picture, number)", "first_seen(picture, number)", "least_cover(picture, number)", "is_cover(picture, number, thing)",
               "sign_areas(picture)", "unlike_region(one, other)", "least_shapes(picture)"],
    "hidden": ["hidden_widths(design, path)"],
    "sheettexts": ["write_selector(selector)", "read_selector(text)", "write_value(value)", "read_value(text)", "write_sheet(sheet)", "read_sheet(text)"],
    "stands": ["stand_of(spine, selector)", "stand_behind(selector, held, letter)"],
}
CLASSES = {
    ("trees", "Tree"): ["__init__(root)", "root_node()", "node_at(path)", "all_paths()", "all_elements()", "elder_of(path)",
                        "with_node(path, node)", "without_node(path)", "with_text(path, text)", "with_class(path, klass)",
                        "without_class(path, klass)", "joined_texts()", "__eq__(other)", "__len__()"],
    ("sheets", "Sheet"): ["__init__(rules)", "all_rules()", "with_rule(rule, number)", "without_rule(number)",
                          "__eq__(other)", "__len__()"],
    ("dresses", "Dressed"): ["__init__(tree, rows)", "own_tree()", "worth_at(path, word)", "__eq__(other)"],
    ("rows", "Row"): ["__init__(items, gap=0)", "all_items()", "own_gap()", "sizes_at(room)", "left_at(room)", "level_at(room)",
                      "is_level(room, thing)", "all_pieces()", "room_for(index, size)", "both_ends()", "needless_bounds()",
                      "lines_at(room)", "wrapped_sizes(room)", "all_breaks()", "room_for_lines(many)", "__eq__(other)"],
    ("columns", "Columns"): ["__init__(many, cells)", "how_many()", "all_cells()", "turned_round()", "is_placing(width, thing)", "least_width()",
                             "side_by_side()", "shows_least(thing)", "places_of(line, width)", "distances_of(one, other, width)",
                             "placing_with(line, place, width)", "needless_cells()", "told_lines(width)", "greatest_width()",
                             "all_pieces()", "__eq__(other)"],
    ("pictures", "Picture"): ["__init__(shapes)", "all_shapes()", "__eq__(other)"],
    ("pages", "Page"): ["__init__(tree, sheet, width)", "tree_now()", "sheet_now()", "width_now()", "put_node(path, node)", "take_node(path)",
                        "new_text(path, text)", "mark_class(path, klass)", "unmark_class(path, klass)", "new_sheet(sheet)", "new_width(width)",
                        "layout_now()", "last_changes()", "undo_last()", "do_again()", "deeds_done()", "twin_page()", "try_out(work)",
                        "is_sealed(path)", "felt_outside(path)", "class_touches(path, klass)", "__eq__(other)"],
    ("designs", "Design"): ["__init__(tree, sheet)", "own_tree()", "own_sheet()", "__eq__(other)"],
}


class InterfaceTest(unittest.TestCase):
    def test_functions(self):
        for file, rows in FUNCTIONS.items():
            module = importlib.import_module("pagefall." + file)
            for row in rows:
                name = row.partition("(")[0]
                function = getattr(module, name)
                self.assertEqual(function.__module__, module.__name__)
                self.assertEqual(name + str(inspect.signature(function)), row)

    def test_classes(self):
        for (file, owner), rows in CLASSES.items():
            module = importlib.import_module("pagefall." + file)
            made = getattr(module, owner)
            self.assertEqual(made.__module__, module.__name__)
            for row in rows:
                name, _, parameters = row.partition("(")
                told = str(inspect.signature(vars(made)[name]))
                self.assertEqual(told.replace("(self, ", "(").replace("(self)", "()"), "(" + parameters)


if __name__ == "__main__":
    unittest.main()
