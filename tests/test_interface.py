import importlib
import inspect
import unittest

# The functions that have been written so far, with their parameters as the document writes them.
FUNCTIONS = {
    "plans": ("need_plan(thing)", "share_of(plan)", "how_many(plan)", "with_gap(plan, number, gap)",
              "without(plan, number)"),
    "rows": ("days_of(plan)", "right_days(plan, standing)", "behind(plan, standing, day)", "row_behind(plan, row)",
             "is_right(plan, value)"),
    "standings": ("does_last(plan)", "lasts(plan, standing)", "least_standings(plan)",
                  "lasting_days(plan, standing)", "longest(plan, standing)"),
    "papers": ("is_round(plan, value)", "shortest_round(plan)", "plan_paper(plan)", "check_plan(plan, paper)"),
    "parts": ("are_parts(plan, value)", "folded(plan, base)", "folded_share(plan, base)", "best_base(plan)",
              "folded_parts(plan)", "day_by(plan, parts, day)", "next_by(plan, parts, number, day)",
              "row_by(plan, parts, many)"),
    "gaps": ("least_gap(plan, number)", "tight(plan)", "widening(plan)", "fewest_hands(plan)"),
    "loads": ("load(plan, value)", "least_load(plan)", "load_paper(plan)", "check_load(plan, paper)"),
    "beside": ("parting_row(one, other)", "is_no_looser(one, other)", "are_alike(one, other)"),
}
CLASSES = {
    "errors": ("BadPlan(place)", "BadDay(value)", "BadRow(place)", "BadStanding(value)", "BadNumber(value)",
               "BadParts(value)", "BadPaper(word)", "BadText(word)", "NothingLeft()", "TooGreat(most)", "Never()"),
}


class Interface(unittest.TestCase):
    def check_defined_there(self, wanted, is_kind):
        for file, told in wanted.items():
            module = importlib.import_module("oftenenough." + file)
            for line in told:
                thing = getattr(module, line.split("(")[0])
                self.assertTrue(is_kind(thing), line)
                self.assertEqual(thing.__module__, module.__name__)
                self.assertEqual(thing.__name__ + str(inspect.signature(thing)), line)

    def test_functions_are_defined_in_their_file_with_their_parameters(self):
        self.check_defined_there(FUNCTIONS, inspect.isfunction)

    def test_classes_are_defined_in_their_file_with_their_fields(self):
        self.check_defined_there(CLASSES, inspect.isclass)
