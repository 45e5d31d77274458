import itertools
import unittest

from oftenenough.errors import BadDay, BadPlan, BadRow, BadStanding
from oftenenough.rows import behind, days_of, is_right, right_days, row_behind
from tests.plain import all_days, all_standings, comes_often_enough
from tests.values import (
    GREATEST_GAP, INTEGERS, LONG, NO_INTEGERS, PLANS, WRONG_PLANS, check_refused, check_result, raised, wrong_standings,
)

WALKED_PLANS = [(1, (1,)), (1, (3,)), (1, (2, 2)), (1, (2, 4, 4)), (2, (1, 2)), (2, (2, 2, 3)), (3, (1, 1)), (3, (2, 1, 3))]


def days_since(row, number):
    """How many DAYS ago a thing came, or, of one that has not come, how many DAYS there are."""
    for ago, day in enumerate(reversed(row)):
        if number in day:
            return ago
    return len(row)


def no_days(plan):
    hands, gaps = plan
    many = len(gaps)
    wrong = [value for value in NO_INTEGERS + INTEGERS if not isinstance(value, tuple)]
    wrong += [(number,) for number in NO_INTEGERS + (-1, many, many + 1, LONG, -LONG)]
    wrong += [[0], [], (0, 0), (1, 0), (0, True), (False, 1), ((0,),), {0: 0}, "0", tuple(range(hands + 1)), (0,) * 20000]
    return wrong


class DaysOf(unittest.TestCase):
    def test_they_are_all_choices_of_things_in_order(self):
        for plan in PLANS + tuple((hands, (2,) * many) for hands in (1, 2, 3) for many in range(1, 9)):
            check_result(self, tuple(all_days(plan)), days_of, plan=plan)

    def test_known_days(self):
        check_result(self, ((), (0,), (1,), (2,)), days_of, plan=(1, (2, 4, 4)))
        check_result(self, ((), (0,), (0, 1), (1,)), days_of, plan=(2, (1, 1)))
        check_result(self, ((), (0,), (0, 1), (1,)), days_of, plan=(3, (5, GREATEST_GAP)))
        check_result(self, ((), (0,)), days_of, plan=(3, (1,)))
        self.assertEqual(len(days_of((3, (1,) * 8))), 1 + 8 + 28 + 56)


class RightDays(unittest.TestCase):
    def test_they_are_the_days_with_all_things_that_have_one_day_left(self):
        for plan in WALKED_PLANS:
            for standing in all_standings(plan):
                due = {number for number, left in enumerate(standing) if left == 1}
                expected = tuple(day for day in all_days(plan) if due <= set(day))
                check_result(self, expected, right_days, plan=plan, standing=standing)

    def test_known_days(self):
        check_result(self, ((0,), (0, 1), (0, 2)), right_days, plan=(2, (2, 2, 3)), standing=(1, 2, 3))
        check_result(self, (), right_days, plan=(1, (2, 2)), standing=(1, 1))
        check_result(self, ((), (0,), (1,)), right_days, plan=(1, (2, 2)), standing=(2, 2))
        check_result(self, (), right_days, plan=(3, (1,) * 8), standing=(1,) * 8)
        standing = (GREATEST_GAP,) * 7 + (1,)
        check_result(self, ((7,),), right_days, plan=(1, (GREATEST_GAP,) * 8), standing=standing)


class Behind(unittest.TestCase):
    def test_what_comes_has_its_gap_and_the_others_one_less(self):
        for plan in WALKED_PLANS:
            for standing in all_standings(plan):
                for day in right_days(plan, standing):
                    expected = list(standing)
                    for number, gap in enumerate(plan[1]):
                        expected[number] = gap if number in day else standing[number] - 1
                    check_result(self, tuple(expected), behind, plan=plan, standing=standing, day=day)

    def test_known_standings(self):
        plan = (1, (2, 4, 4))
        check_result(self, (2, 3, 3), behind, plan=plan, standing=(2, 4, 4), day=(0,))
        check_result(self, (1, 3, 3), behind, plan=plan, standing=(2, 4, 4), day=())
        check_result(self, (1, 4, 2), behind, plan=plan, standing=(2, 1, 3), day=(1,))
        check_result(self, (GREATEST_GAP - 1,), behind, plan=(1, (GREATEST_GAP,)), standing=(GREATEST_GAP,), day=())
        check_result(self, (GREATEST_GAP,), behind, plan=(1, (GREATEST_GAP,)), standing=(1,), day=(0,))

    def test_a_day_that_is_not_right_is_refused(self):
        for plan in WALKED_PLANS:
            for standing in all_standings(plan):
                for day in set(all_days((3, (1,) * 4))) - set(right_days(plan, standing)):
                    check_refused(self, BadDay, "value", day, behind, plan=plan, standing=standing, day=day)

    def test_what_is_no_day_is_refused(self):
        for plan in PLANS + tuple(WALKED_PLANS):
            for day in no_days(plan):
                check_refused(self, BadDay, "value", day, behind, plan=plan, standing=plan[1], day=day)

    def test_a_due_thing_hides_no_wrong_one(self):
        for day in ((0, 3), (0, True), (0, 0), [0], (-1, 0), (0, 1, 2), (1, 0)):
            check_refused(self, BadDay, "value", day, behind, plan=(2, (2, 2, 3)), standing=(1, 2, 3), day=day)

    def test_the_very_value_is_told(self):
        value = [0]
        self.assertIs(raised(self, BadDay, behind, (1, (2, 3)), (2, 3), value).value, value)


class WrongStandings(unittest.TestCase):
    def test_they_are_refused_ahead_of_the_day(self):
        for plan in PLANS:
            for standing in wrong_standings(plan):
                check_refused(self, BadStanding, "value", standing, right_days, plan=plan, standing=standing)
                for day in ((), (0,), (9,), None):
                    check_refused(self, BadStanding, "value", standing, behind, plan=plan, standing=standing, day=day)

    def test_the_very_value_is_told(self):
        value = [2, 3]
        self.assertIs(raised(self, BadStanding, right_days, (1, (2, 3)), value).value, value)
        self.assertIs(raised(self, BadStanding, behind, (1, (2, 3)), value, (0,)).value, value)

    def test_the_edges_of_each_thing(self):
        plan = (1, (2, GREATEST_GAP))
        for standing in ((1, GREATEST_GAP), (2, GREATEST_GAP), (2, 1), (1, 2)):
            self.assertEqual(right_days(plan, standing)[-1], (1,) if standing[0] > 1 else (0,))
        for standing in ((0, 1), (3, 1), (1, 0), (1, GREATEST_GAP + 1)):
            check_refused(self, BadStanding, "value", standing, right_days, plan=plan, standing=standing)


class Rows(unittest.TestCase):
    def check_row(self, plan, row):
        """By what a right ROW means for any GAP of its DAYS, not by walking along it."""
        rights = [comes_often_enough(plan, row[:many]) and all(day in all_days(plan) for day in row[:many])
                  for many in range(len(row) + 1)]
        self.assertIs(is_right(plan, row), rights[-1], (plan, row))
        for passed in (row, list(row)):
            if rights[-1]:
                expected = tuple(gap - days_since(row, number) for number, gap in enumerate(plan[1]))
                self.assertEqual(row_behind(plan, passed), expected, (plan, row))
            else:
                self.assertEqual(raised(self, BadRow, row_behind, plan, passed).place, rights.index(False) - 1)

    def test_all_short_rows(self):
        for plan in WALKED_PLANS:
            things = all_days((min(plan[0] + 1, 3), plan[1]))
            for many in range(5 if len(things) < 6 else 4):
                for row in itertools.product(things, repeat=many):
                    self.check_row(plan, row)

    def test_the_empty_row(self):
        for plan in PLANS:
            check_result(self, plan[1], row_behind, plan=plan, row=())
            check_result(self, plan[1], row_behind, plan=plan, row=[])
            check_result(self, True, is_right, plan=plan, value=())
            check_result(self, False, is_right, plan=plan, value=[])

    def test_known_rows(self):
        plan = (1, (2, 4, 4))
        row = ((0,), (1,), (0,), (2,))
        check_result(self, (1, 2, 4), row_behind, plan=plan, row=row)
        check_result(self, (1, 2, 4), row_behind, plan=plan, row=list(row))
        check_result(self, True, is_right, plan=plan, value=row)
        check_result(self, False, is_right, plan=plan, value=list(row))
        check_result(self, False, is_right, plan=plan, value=row + ((1,),))
        check_refused(self, BadRow, "place", 4, row_behind, plan=plan, row=row + ((1,),))

    def test_the_first_wrong_thing_is_told(self):
        plan = (1, (3, 3))
        for thing in no_days(plan) + [(0, 1)]:
            for row, place in (((thing,), 0), (((0,), (1,), thing), 2), (((0,), thing, thing, None), 1)):
                check_refused(self, BadRow, "place", place, row_behind, plan=plan, row=row)
                check_refused(self, BadRow, "place", place, row_behind, plan=plan, row=list(row))
                check_result(self, False, is_right, plan=plan, value=row)

    def test_a_late_thing_is_told_where_it_had_to_come(self):
        check_refused(self, BadRow, "place", 2, row_behind, plan=(1, (3, 9)), row=[(), (), (), None])
        check_refused(self, BadRow, "place", 0, row_behind, plan=(2, (1, 1)), row=((0,),))

    def test_what_is_no_list_and_no_tuple_is_refused(self):
        for plan in PLANS:
            for row in NO_INTEGERS + INTEGERS:
                if not isinstance(row, (list, tuple)):
                    check_refused(self, BadRow, "place", None, row_behind, plan=plan, row=row)
                if not isinstance(row, tuple):
                    check_result(self, False, is_right, plan=plan, value=row)

    def test_rows_of_a_thousand_things_and_of_more(self):
        plan = (1, (2, 2))
        row = ((0,), (1,)) * 500
        check_result(self, (1, 2), row_behind, plan=plan, row=row)
        check_result(self, (1, 2), row_behind, plan=plan, row=list(row))
        check_result(self, True, is_right, plan=plan, value=row)
        check_refused(self, BadRow, "place", 999, row_behind, plan=plan, row=row[:-1] + ((0,),))
        for longer in (row + ((0,),), [None] * 1001, (None,) * 1001, row * 10):
            check_refused(self, BadRow, "place", None, row_behind, plan=plan, row=longer)

    def test_is_right_takes_rows_of_any_length(self):
        plan = (1, (2, 2))
        for many in (1001, 9999):
            row = (((0,), (1,)) * 5000)[:many]
            check_result(self, True, is_right, plan=plan, value=row)
            check_result(self, False, is_right, plan=plan, value=row + (row[-1],))
            check_result(self, False, is_right, plan=plan, value=row + ([1],))

    def test_gaps_of_thirty_figures(self):
        plan = (1, (GREATEST_GAP, 1))
        check_result(self, (GREATEST_GAP - 3, 1), row_behind, plan=plan, row=[(1,), (1,), (1,)])
        check_refused(self, BadRow, "place", 1, row_behind, plan=plan, row=[(1,), (0,)])

    def test_a_list_is_free_again_behind_the_call(self):
        row = [(0,), (1,)]
        told = row_behind((1, (2, 2)), row)
        row.append((1,))
        self.assertEqual(told, (1, 2))


class WrongPlans(unittest.TestCase):
    def test_every_function_refuses_them_ahead_of_all_else(self):
        for plan, place in WRONG_PLANS:
            check_refused(self, BadPlan, "place", place, days_of, plan=plan)
            for other in ((), None, [(0,)], ((9,),)):
                check_refused(self, BadPlan, "place", place, right_days, plan=plan, standing=other)
                check_refused(self, BadPlan, "place", place, behind, plan=plan, standing=other, day=other)
                check_refused(self, BadPlan, "place", place, row_behind, plan=plan, row=other)
                check_refused(self, BadPlan, "place", place, is_right, plan=plan, value=other)
