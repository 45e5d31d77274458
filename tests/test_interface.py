import importlib
import inspect
import unittest

from oftenenough.desk import Desk
from oftenenough.keeper import Keeper
from tests.values import check_result

PLAN = (1, (2, 4, 4))
DAYS = ((0,), (1,), (0,), (2,))
PARTS = ((0, 2, 0), (0, 4, 1), (0, 4, 3))
LAST = (((1, 2, 4), 0), ((1, 3, 4), 0), ((1, 4, 2), 0), ((1, 4, 3), 0), ((1, 4, 4), 0), ((2, 1, 3), 0), ((2, 1, 4), 0),
        ((2, 2, 3), 0), ((2, 2, 4), 0), ((2, 3, 1), 0), ((2, 3, 2), 0), ((2, 3, 3), 0), ((2, 3, 4), 0), ((2, 4, 1), 0),
        ((2, 4, 2), 0), ((2, 4, 3), 0), ((2, 4, 4), 0))

# Each function by its parameters as the document writes them, with a call by the names of these and what it returns.
FUNCTIONS = {
    "plans": {
        "need_plan(thing)": ((PLAN,), PLAN),
        "share_of(plan)": ((PLAN,), (1, 1)),
        "how_many(plan)": ((PLAN,), 32),
        "with_gap(plan, number, gap)": ((PLAN, 1, 2), (1, (2, 2, 4))),
        "without(plan, number)": ((PLAN, 1), (1, (2, 4))),
    },
    "rows": {
        "days_of(plan)": ((PLAN,), ((), (0,), (1,), (2,))),
        "right_days(plan, standing)": ((PLAN, (1, 2, 4)), ((0,),)),
        "behind(plan, standing, day)": ((PLAN, (2, 4, 4), (0,)), (2, 3, 3)),
        "row_behind(plan, row)": ((PLAN, list(DAYS)), (1, 2, 4)),
        "is_right(plan, value)": ((PLAN, DAYS), True),
    },
    "standings": {
        "does_last(plan)": ((PLAN,), True),
        "lasts(plan, standing)": ((PLAN, (1, 3, 2)), False),
        "least_standings(plan)": ((PLAN,), ((1, 2, 4), (1, 4, 2), (2, 1, 3), (2, 3, 1))),
        "lasting_days(plan, standing)": ((PLAN, (2, 3, 3)), ((1,), (2,))),
        "longest(plan, standing)": ((PLAN, (2, 2, 2)), 1),
    },
    "papers": {
        "is_round(plan, value)": ((PLAN, DAYS), True),
        "shortest_round(plan)": (((1, (1,)),), ((0,),)),
        "plan_paper(plan)": (((1, (1, 1)),), ("lost", (((1, 1), 0),))),
        "check_plan(plan, paper)": ((PLAN, ("round", DAYS)), "round"),
    },
    "parts": {
        "are_parts(plan, value)": ((PLAN, PARTS), True),
        "folded(plan, base)": (((1, (3, 7)), 3), (3, 6)),
        "folded_share(plan, base)": (((1, (3, 7)), 3), (1, 2)),
        "best_base(plan)": ((PLAN,), 2),
        "folded_parts(plan)": (((1, (2, 2, 2)),), None),
        "day_by(plan, parts, day)": ((PLAN, PARTS, 3), (2,)),
        "next_by(plan, parts, number, day)": ((PLAN, PARTS, 1, 2), 5),
        "row_by(plan, parts, many)": ((PLAN, PARTS, 4), DAYS),
    },
    "gaps": {
        "least_gap(plan, number)": (((1, (2, 5, 9)), 2), 4),
        "tight(plan)": (((1, (2, 4, 5)),), (0, 1)),
        "widening(plan)": (((1, (2, 3, 6)),), 1),
        "fewest_hands(plan)": (((3, (2, 3, 6)),), 2),
    },
    "loads": {
        "load(plan, value)": (((1, (2, 4)), ((0,), (1,), (0,), ())), (3, 4)),
        "least_load(plan)": (((1, (2, 4)),), (3, 4)),
        "load_paper(plan)": (((1, (1,)),), (((0,),), (1, 1), (((1,), 0),))),
        "check_load(plan, paper)": ((PLAN, (DAYS, (1, 1), LAST)), (1, 1)),
    },
    "beside": {
        "parting_row(one, other)": (((1, (3, 3, 3)), (1, (3, 3, 2))), ((0,), (1,))),
        "is_no_looser(one, other)": (((1, (2, 2)), (1, (2, 3))), True),
        "are_alike(one, other)": (((1, (2, 2)), (1, (2, 3))), False),
    },
    "counts": {
        "many_rows(plan, many)": ((PLAN, 4), 4),
        "row_at(plan, many, number)": ((PLAN, 4, 0), DAYS),
        "number_of(plan, row)": ((PLAN, DAYS), 0),
    },
    "keeper": {
        "under(manager, deed)": ((Keeper(PLAN).trial(), len), 0),
    },
    "texts": {
        "plan_text(plan)": ((PLAN,), "hands 1 gaps 2 4 4"),
        "day_text(plan, day)": (((2, (2, 4, 4)), (0, 2)), "0+2"),
        "row_text(plan, row)": ((PLAN, [(0,), ()]), "0 -"),
        "read_plan(text)": (("hands 1 gaps 2 4 4",), PLAN),
        "read_day(plan, text)": (((2, (2, 4, 4)), "0+2"), (0, 2)),
        "read_row(plan, text)": ((PLAN, "0 1 0 2"), DAYS),
    },
}
CLASSES = {
    "errors": ("BadPlan(place)", "BadDay(value)", "BadRow(place)", "BadStanding(value)", "BadNumber(value)",
               "BadParts(value)", "BadPaper(word)", "BadText(word)", "NothingLeft()", "TooGreat(most)", "Never()"),
    "keeper": ("Keeper(plan)",),
    "desk": ("Desk(text)",),
}
# Each method behind the DAY (0,), in turn.
METHODS = {
    Keeper: {
        "may(self)": ((), ((), (0,), (1,), (2,))),
        "keep(self)": ((), ((1,), (2,))),
        "lasts(self)": ((), True),
        "advice(self)": ((), (1,)),
        "ago(self, number)": ((1,), 1),
        "row(self)": ((), ((0,),)),
        "__len__(self)": ((), 1),
    },
    Desk: {
        "say(self, line)": (("standing",), "2 3 3"),
    },
}
DEEDS = {
    "day(self, day)": (((1,),), (1, 4, 2)),
    "change(self, plan)": (((2, (3, 3, 3)),), None),
    "undo(self)": ((), None),
}
PROPERTIES = {Keeper: ("plan", "standing"), Desk: ("keeper",)}


def named(line, values):
    """The values by the names of the parameters in a line such as told(one, other), without self."""
    names = [name for name in line[line.index("(") + 1:-1].split(", ") if name not in ("", "self")]
    return dict(zip(names, values, strict=True))


class Interface(unittest.TestCase):
    def check_defined_there(self, wanted, is_kind):
        for file, told in wanted.items():
            module = importlib.import_module("oftenenough." + file)
            for line in told:
                thing = getattr(module, line.split("(")[0])
                self.assertTrue(is_kind(thing), line)
                self.assertEqual(thing.__module__, module.__name__)
                self.assertEqual(thing.__name__ + str(inspect.signature(thing)), line)

    def test_functions_are_defined_in_their_file_with_their_parameters(self):
        self.check_defined_there(FUNCTIONS, inspect.isfunction)

    def test_classes_are_defined_in_their_file_with_their_fields(self):
        self.check_defined_there(CLASSES, inspect.isclass)

    def test_methods_are_defined_in_their_class_with_their_parameters(self):
        lines = [(Keeper, line) for line in tuple(METHODS[Keeper]) + tuple(DEEDS)]
        lines += [(Keeper, line) for line in ("copy(self)", "trial(self)", "__eq__(self, other)")]
        for owner, line in lines + [(Desk, "say(self, line)")]:
            method = vars(owner)[line.split("(")[0]]
            self.assertEqual(method.__name__ + str(inspect.signature(method)), line)

    def test_properties_are_defined_in_their_class(self):
        for owner, names in PROPERTIES.items():
            for name in names:
                self.assertIs(type(vars(owner)[name]), property)

    def test_each_function_by_position_and_by_the_names_of_its_parameters_in_any_order(self):
        for file, told in FUNCTIONS.items():
            module = importlib.import_module("oftenenough." + file)
            for line, (values, result) in told.items():
                check_result(self, result, getattr(module, line.split("(")[0]), **named(line, values))

    def test_each_method_by_position_and_by_the_names_of_its_parameters(self):
        desk = Desk(text="hands 1 gaps 2 4 4")
        self.assertEqual(desk.say(line="day 0"), "2 3 3")
        for owner, told in METHODS.items():
            one = desk if owner is Desk else desk.keeper
            for line, (values, result) in told.items():
                check_result(self, result, getattr(one, line.split("(")[0]), **named(line, values))

    def test_each_deed_by_position_and_by_the_names_of_its_parameters(self):
        for line, (values, result) in DEEDS.items():
            by_position, by_name = Keeper(PLAN), Keeper(plan=PLAN)
            for one in (by_position, by_name):
                self.assertEqual(one.day((0,)), (2, 3, 3))
            told = getattr(by_position, line.split("(")[0])(*values)
            self.assertEqual(told, getattr(by_name, line.split("(")[0])(**named(line, values)))
            self.assertEqual(told, result)
            self.assertEqual(by_position, by_name)
            self.assertNotEqual(len(by_name), 1)
