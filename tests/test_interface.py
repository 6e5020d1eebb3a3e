"""The interface: each function stands in its own file, with its arguments under their names."""

import importlib
import inspect
import unittest

from rungonce.conductors import Conductor

INTERFACE = {
    "rows": ["is_row(value)", "is_change(bells, value)", "changes_of(bells)", "behind_change(row, change)",
             "followed_by(row, other)", "row_undone(row)"],
    "leads": ["is_lead(bells, value)", "rows_rung(row, lead)", "led_to(row, lead)", "acting_row(bells, lead)"],
    "groups": ["are_ways(bells, value)", "group_of(bells, ways)", "number_of(bells, ways, row)",
               "table_of(bells, ways)", "ways_to(bells, ways, row)"],
    "choices": ["is_table(value)", "is_choice(table, value)", "next_ones(table, choice)",
                "two_that_meet(table, choice)", "blocks_of(table, choice)"],
    "compositions": ["ways_by(bells, lead, calls)", "rung_by(bells, lead, calls, composition)",
                     "comes_round(bells, lead, calls, composition)", "twice_rung(bells, lead, calls, composition)"],
    "rowplaces": ["stands_at(bells, change)", "change_standing(bells, places)", "row_number(row)",
                  "row_at(bells, number)", "pairs_turned(row)"],
    "leadtexts": ["lead_text(bells, lead)", "short_text(bells, lead)", "read_lead(bells, text)"],
    "rowroads": ["change_between(row, other)", "least_road(row, other)"],
    "rowrings": ["rings_of(row)", "leads_home(bells, lead)"],
    "classes": ["classes_of(table, one, two)", "class_of(table, one, two, at)", "ends_of(table, one, two, at)",
                "class_clash(table, one, two, choice)", "count_kept(table, one, two)",
                "count_leadings(table, one, two)"],
    "classpairs": ["first_parted(table, one, two, three, four)", "common_lots(table, one, two, three, four)",
                   "joined_lots(table, one, two, three, four)", "pairs_with(table, numbers)"],
    "pieces": ["pieces_of(table)", "piece_ends(table, at)", "beside_of(table, at)", "holding_ways(table)",
               "count_one(table)"],
    "twoways": ["ties_of(two)", "count_two(two, told)", "choice_at(two, index)", "index_of(two, choice)",
                "led_on(two, told)", "told_apart(two, told)"],
    "parities": ["parity_of(two, choice)", "only_parity(two, told)", "choice_with_parity(two, told, parity)"],
    "manyways": ["choice_with(table, told)", "lot_with_few(table, told)", "is_lot_with_few(table, told, value)",
                 "count_choices(table, told)"],
    "between": ["rings_between(table, choice, beside)", "turned_ring(table, choice, beside, index)",
                "are_between(table, choice, beside, value)"],
    "leadings": ["choice_for(table, leading)", "first_without(table, leading)", "count_for(table, leading)"],
    "sheets": ["is_sheet(value)", "turned_sheet(sheet, lot)", "turned_back(sheet, lot)", "sheet_of(table, one, two)"],
    "blockcounts": ["block_counts(sheet)"],
    "standing": ["stand_together(sheet, lot, stand, mate)", "together_lot(sheet, stand, mate)",
                 "apart_lot(sheet, stand, mate)"],
    "across": ["across_table(sheet)", "even_lot(sheet, lot)", "is_even_lot(sheet, lot, value)",
               "undone_table(sheet, lot)", "unlike_lot(sheet, other)"],
    "sheetpairs": ["sheet_pairs(sheet)"],
    "turnlots": ["turn_classes(table)", "lot_choice(table, lot)", "lot_blocks(table, lot)", "is_whole_table(table)",
                 "is_paired(table)"],
    "oneblocks": ["turned_numbers(table)", "fewest_turned(table)", "is_tree_lot(table, lot)"],
    "crossings": ["crossing_pairs(table, lot)", "even_turning(table, lot, other)", "turning_road(table, lot, other)"],
    "lotsearch": ["one_block_lots(table)", "lots_by_blocks(table)", "least_lot(table)"],
    "lots": ["is_lot(table, value)", "does_serve(table, lot, choice)", "blocks_of_lot(table, lot, choice)"],
    "stretches": ["stretches_of(table, lot, one, other)", "odd_stretch(table, lot, one, other)",
                  "whole_rings(table, lot, one, other)", "forced_ways(table, lot, one, other)",
                  "is_rest_served(table, lot, one, other)", "unlike_stretches(table, lot, one, other)"],
    "mostserved": ["most_served(table, lot)", "price_paper(table, lot)", "is_price_paper(table, lot, value)",
                   "too_few(table, lot)"],
    "lotblocks": ["lot_block_counts(table, lot, one, other)", "in_one_block(table, lot, one, other)"],
    "leadcourses": ["is_course(bells, ways, value)", "heads_of(bells, ways, course)", "rows_held(bells, ways, course)",
                    "spoilt_ways(bells, ways)", "places_that_meet(bells, ways, course)",
                    "is_clean(bells, ways, course)"],
    "leadmeetings": ["meetings_of(bells, ways, one, two)", "alike_in_meetings(bells, ways, number, others)",
                     "parting_of(bells, ways, number, others)"],
    "leadstandings": ["may_stand_for(bells, ways, one, two)", "worsening_of(bells, ways, one, two)"],
    "leadbeginnings": ["common_beginning(bells, ways)", "begun_elsewhere(bells, ways, number)",
                       "mirrored_ways(bells, ways)", "begun_by(bells, ways, others)"],
    "paths": ["path_of(bells, lead, bell)", "are_paths(bells, many, value)", "count_leads(bells, many, paths)",
              "lead_with(bells, many, paths)"],
    "tellers": ["is_told(bells, lead, lot)", "second_lead(bells, lead, lot)", "least_tellers(bells, lead)",
                "parting_lots(bells, leads)"],
    "slips": ["are_slips(bells, lead, value)", "rows_heard(bells, lead, slips)", "renaming_by(bells, lead, slips)",
              "fewest_slips(bells, lead, renaming)", "count_fewest(bells, lead, renaming)",
              "single_slips(bells, lead, renaming)"],
    "hearing": ["slips_heard(bells, lead, rows)", "first_unheard(bells, lead, rows)", "renamings_for(row, heard)"],
    "putright": ["notes_for(bells, lead, renaming)", "right_by(bells, lead, renaming)"],
    "tours": ["is_tour(value)", "tour_heads(tour)", "tour_path(tour, bell)", "tour_crossings(tour, bell, other_bell)"],
    "homes": ["least_home(tour)", "true_home(tour, many)", "open_ways(tour, many)"],
    "callings": ["told_by_bell(tour, bell)", "is_plainly_called(tour, bell)",
                 "led_by_bell(bells, lead, calls, bell, pairs)"],
}
CONDUCTOR = ["__init__(self, bells, lead, calls)", "call(self, way)", "undo(self)", "redo(self)",
             "attempt(self, action)", "__len__(self)", "__bool__(self)", "__eq__(self, other)"]


class Interface(unittest.TestCase):
    def test_all_functions_stand_where_they_are_listed(self):
        for name, listed in INTERFACE.items():
            module = importlib.import_module("rungonce." + name)
            for line in listed:
                function = getattr(module, line.partition("(")[0])
                self.assertTrue(inspect.isfunction(function), line)
                self.assertEqual(function.__module__, module.__name__)
                self.assertEqual(function.__name__ + str(inspect.signature(function)), line)
                self.assertTrue(function.__doc__, line)

    def test_the_conductor_has_all_that_is_listed_itself(self):
        self.assertEqual(Conductor.__module__, "rungonce.conductors")
        self.assertEqual(Conductor.__bases__, (object,))
        for line in CONDUCTOR:
            method = vars(Conductor)[line.partition("(")[0]]
            self.assertEqual(method.__name__ + str(inspect.signature(method)), line)
        for name in ("tour", "head", "fault"):
            self.assertIsInstance(vars(Conductor)[name], property)


if __name__ == "__main__":
    unittest.main()
