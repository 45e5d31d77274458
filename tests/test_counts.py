import itertools
import unittest
from math import prod

from oftenenough.counts import many_rows, number_of, row_at
from oftenenough.errors import BadNumber, BadPlan, BadRow, TooGreat
from oftenenough.standings import does_last
from tests.plain import Told, all_days
from tests.values import (
    GREATEST_GAP, GREAT_PLANS, INTEGERS, LONG, NO_INTEGERS, PLANS, THOUSAND_PLANS, WRONG_PLANS, check_refused,
    check_result, otherwise,
)

SMALL_PLANS = tuple((hands, gaps) for hands in (1, 2, 3) for many in (1, 2, 3, 4)
                    for gaps in itertools.combinations_with_replacement(range(1, 5), many) if prod(gaps) <= 16)
# Plans and the most DAYS of which all ROWS are listed.
LISTED = (
    ((1, (1,)), 6), ((1, (3,)), 7), ((1, (2, 2)), 6), ((1, (3, 2)), 6), ((1, (2, 4, 4)), 6), ((2, (1, 2)), 5),
    ((2, (2, 2, 2)), 3), ((3, (2, 1, 3)), 4), ((3, (2, 2)), 4), ((1, (1, 1)), 3), ((1, (2, 3, 6)), 3),
)
LOST = ((1, (1, 1)), (1, (2, 3, 6)), (2, (1, 1, 1)), (1, (1, 1000)), (3, (5, 1, 2, 2, 2, 1, 5, 5)))
NO_MANY = NO_INTEGERS + (-1, -2, 201, 202, 1000, GREATEST_GAP, LONG, -LONG)


def lasting_rows(plan, told, many):
    """All ROWS of so many DAYS, each tried, that are right and last, in ascending order."""
    rows = []
    for row in itertools.product(all_days(plan), repeat=many):
        standing = plan[1]
        for day in row:
            standing = told.ways[standing].get(day) if standing else None
        if standing in told.lasting:
            rows.append(row)
    return rows


class Listed(unittest.TestCase):
    def test_all_rows_of_few_days(self):
        for plan, most in LISTED:
            told = Told(plan)
            for many in range(most + 1):
                rows = lasting_rows(plan, told, many)
                self.assertEqual(rows, sorted(set(rows)))
                check_result(self, len(rows), many_rows, plan=plan, many=many)
                for number, row in enumerate(rows):
                    self.assertEqual(row_at(plan, many, number), row)
                    self.assertEqual(number_of(plan, row), number)
                for number in (len(rows), len(rows) + 1, -1):
                    check_refused(self, BadNumber, "value", number, row_at, plan=plan, many=many, number=number)

    def test_more_plans_with_two_days(self):
        found = set()
        for plan in SMALL_PLANS:
            rows = lasting_rows(plan, Told(plan), 2)
            self.assertEqual(many_rows(plan, 2), len(rows), plan)
            self.assertEqual([row_at(plan, 2, number) for number in range(len(rows))], rows)
            self.assertEqual([number_of(plan, row) for row in rows], list(range(len(rows))))
            found.add((plan[0], len(rows) > 1))
        self.assertEqual(found, set(itertools.product((1, 2, 3), (True, False))))

    def test_each_row_that_is_not_listed_is_refused(self):
        for plan, most in LISTED:
            rows = set(lasting_rows(plan, Told(plan), 3))
            for row in itertools.product(all_days((3, plan[1])), repeat=3):
                if row not in rows:
                    check_refused(self, BadRow, "place", None, number_of, plan=plan, row=row)


class Known(unittest.TestCase):
    def test_how_many(self):
        for plan, many, told in (((1, (1,)), 200, 1), ((1, (2, 2)), 0, 1), ((1, (2, 2)), 1, 2), ((1, (2, 2)), 200, 2),
                                 ((1, (2,)), 2, 3), ((1, (1000,)), 200, 2 ** 200), ((3, (1, 1, 1)), 9, 1),
                                 ((1, (2, 4, 4)), 4, 4), ((2, (500, 2)), 1, 4), ((2, (1, 1000)), 100, 2 ** 100)):
            check_result(self, told, many_rows, plan=plan, many=many)

    def test_one_thing_within_two_days_as_fibonacci_counts_it(self):
        one, other = 1, 2
        for many in range(201):
            # Of the DAYS () and (0,) no two () stand behind each other, nor one behind which nothing more can be told.
            self.assertEqual(many_rows((1, (2,)), many), one)
            one, other = other, one + other

    def test_rows(self):
        plan = (1, (2, 4, 4))
        check_result(self, ((0,), (2,), (0,), (1,)), row_at, plan=plan, many=4, number=1)
        check_result(self, 1, number_of, plan=plan, row=((0,), (2,), (0,), (1,)))
        check_result(self, (), row_at, plan=plan, many=0, number=0)
        check_result(self, 0, number_of, plan=plan, row=())
        check_result(self, ((),) * 200, row_at, plan=(3, (1000,)), many=200, number=0)
        check_result(self, ((0,),) * 200, row_at, plan=(3, (1000,)), many=200, number=2 ** 200 - 1)
        check_result(self, 2 ** 200 - 1, number_of, plan=(3, (1000,)), row=((0,),) * 200)

    def check_there_and_back(self, plan, many):
        """Some ROWS in the order of their numbers, the last one too, have the numbers that they are found by."""
        count = many_rows(plan, many)
        self.assertEqual(count > 0, does_last(plan))
        numbers = sorted({number for number in (0, count // 3, count - 1) if 0 <= number < count})
        rows = [row_at(plan, many, number) for number in numbers]
        self.assertEqual(rows, sorted(rows))
        self.assertEqual({len(row) for row in rows} - {many}, set())
        self.assertEqual([number_of(plan, row) for row in rows], numbers)

    def test_there_and_back(self):
        for plan, _ in LISTED:
            for many in (0, 1, 2, 199, 200):
                self.check_there_and_back(plan, many)

    def test_there_and_back_by_a_thousand_standings(self):
        for plan in THOUSAND_PLANS:
            for many in (1, 20):
                self.check_there_and_back(plan, many)
        self.check_there_and_back((3, (2, 2, 2, 5, 5, 5)), 200)
        self.check_there_and_back((1, (10, 10, 10)), 200)


class NeverLasting(unittest.TestCase):
    def test_there_are_no_rows(self):
        for plan in LOST:
            for many in (0, 1, 200):
                check_result(self, 0, many_rows, plan=plan, many=many)
                for number in (0, 1, LONG, -1):
                    check_refused(self, BadNumber, "value", number, row_at, plan=plan, many=many, number=number)
            check_refused(self, BadRow, "place", None, number_of, plan=plan, row=())
        check_refused(self, BadRow, "place", None, number_of, plan=(1, (1, 1000)), row=((0,),))


class Refused(unittest.TestCase):
    def test_a_wrong_plan_ahead_of_all_else(self):
        for plan, place in WRONG_PLANS:
            for many in (0, -1, None):
                check_refused(self, BadPlan, "place", place, many_rows, plan=plan, many=many)
                check_refused(self, BadPlan, "place", place, row_at, plan=plan, many=many, number=-1)
            check_refused(self, BadPlan, "place", place, number_of, plan=plan, row=None)

    def test_wrong_many_ahead_of_wrong_numbers_and_too_great(self):
        for plan in PLANS + GREAT_PLANS:
            for many in NO_MANY:
                check_refused(self, BadNumber, "value", many, many_rows, plan=plan, many=many)
                for number in (0, -1, "no", LONG):
                    check_refused(self, BadNumber, "value", many, row_at, plan=plan, many=many, number=number)

    def test_wrong_numbers(self):
        for plan in ((1, (1,)), (1, (2, 2)), (3, (2, 1, 3)), (1, (10, 10, 10))):
            for many in (0, 1, 200):
                count = many_rows(plan, many)
                for number in NO_INTEGERS + (-1, -2, count, count + 1, LONG, -LONG):
                    check_refused(self, BadNumber, "value", number, row_at, plan=plan, many=many, number=number)

    def test_any_value_in_the_place_of_a_row(self):
        for plan in ((1, (1,)), (1, (2, 4, 4)), (3, (2, 1, 3))):
            for value in NO_INTEGERS + INTEGERS:
                if value != ():
                    check_refused(self, BadRow, "place", None, number_of, plan=plan, row=value)
            row = row_at(plan, 4, 0)
            right = lasting_rows(plan, Told(plan), 3) + lasting_rows(plan, Told(plan), 4)
            right = {repr(each) for each in right + lasting_rows(plan, Told(plan), 5)}
            for value in otherwise(row, NO_INTEGERS + (-1, 8)):
                if repr(value) not in right | {"()"}:
                    check_refused(self, BadRow, "place", None, number_of, plan=plan, row=value)
            check_refused(self, BadRow, "place", None, number_of, plan=plan, row=list(row))

    def test_a_row_that_is_too_long_or_does_not_last(self):
        check_result(self, 0, number_of, plan=(1, (1,)), row=((0,),) * 200)
        for many in (201, 202, 1000, 1001):
            check_refused(self, BadRow, "place", None, number_of, plan=(1, (1,)), row=((0,),) * many)
        # The first DAY is right, but then two things have to come on each DAY.
        check_refused(self, BadRow, "place", None, number_of, plan=(1, (2, 2)), row=((),))
        check_refused(self, BadRow, "place", None, number_of, plan=(1, (2, 4, 4)), row=((0,), ()))

    def test_too_great_ahead_of_what_is_counted(self):
        for plan in GREAT_PLANS:
            for many in (0, 1, 200):
                check_refused(self, TooGreat, "most", 1000, many_rows, plan=plan, many=many)
                for number in (0, 1, GREATEST_GAP, LONG):
                    check_refused(self, TooGreat, "most", 1000, row_at, plan=plan, many=many, number=number)
            check_refused(self, TooGreat, "most", 1000, number_of, plan=plan, row=())
        # Right, but behind these no DAY is right.
        check_refused(self, TooGreat, "most", 1000, number_of, plan=(1, (1001, 2, 2)), row=((),))
        check_refused(self, TooGreat, "most", 1000, number_of, plan=(1, (1, 1001)), row=((0,),) * 200)

    def test_too_great_behind_what_is_refused_without_counting(self):
        for plan in GREAT_PLANS:
            for number in NO_INTEGERS + (-1, -2, -LONG):
                check_refused(self, BadNumber, "value", number, row_at, plan=plan, many=1, number=number)
            for value in NO_INTEGERS + INTEGERS + (((8,),), ((0, 0),), [()], ((0,),) * 201, ((),) * 201):
                if value not in ((), ((),)):
                    check_refused(self, BadRow, "place", None, number_of, plan=plan, row=value)
        check_refused(self, BadRow, "place", None, number_of, plan=(1, (1, 1001)), row=((),))
