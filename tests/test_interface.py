"""The interface: each function stands in its own file, with its arguments under their names."""

import importlib
import inspect
import unittest

INTERFACE = {
    "rows": ["is_row(value)", "is_change(bells, value)", "changes_of(bells)", "behind_change(row, change)",
             "followed_by(row, other)", "row_undone(row)"],
    "leads": ["is_lead(bells, value)", "rows_rung(row, lead)", "led_to(row, lead)", "acting_row(bells, lead)"],
    "groups": ["are_ways(bells, value)", "group_of(bells, ways)", "number_of(bells, ways, row)",
               "table_of(bells, ways)", "ways_to(bells, ways, row)"],
    "choices": ["is_table(value)", "is_choice(table, value)", "next_ones(table, choice)",
                "two_that_meet(table, choice)", "blocks_of(table, choice)"],
    "compositions": ["ways_by(bells, lead, calls)", "rung_by(bells, lead, calls, composition)",
                     "comes_round(bells, lead, calls, composition)", "twice_rung(bells, lead, calls, composition)"],
    "rowplaces": ["stands_at(bells, change)", "change_standing(bells, places)", "row_number(row)",
                  "row_at(bells, number)", "pairs_turned(row)"],
}


class Interface(unittest.TestCase):
    def test_all_functions_stand_where_they_are_listed(self):
        for name, listed in INTERFACE.items():
            module = importlib.import_module("rungonce." + name)
            for line in listed:
                function = getattr(module, line.partition("(")[0])
                self.assertTrue(inspect.isfunction(function), line)
                self.assertEqual(function.__module__, module.__name__)
                self.assertEqual(function.__name__ + str(inspect.signature(function)), line)
                self.assertTrue(function.__doc__, line)


if __name__ == "__main__":
    unittest.main()
