import itertools
import unittest
from fractions import Fraction
from math import prod

from oftenenough.errors import BadNumber, BadPlan
from oftenenough.plans import how_many, need_plan, share_of, with_gap, without
from tests.values import (
    GREATEST_GAP, INTEGERS, LONG, NO_INTEGERS, PLANS, WRONG_PLANS, check_refused, check_result, raised,
)

SMALL_PLANS = [(hands, gaps) for hands in (1, 2, 3) for many in (1, 2, 3)
               for gaps in itertools.product(range(1, 7), repeat=many)]
WRONG_GAPS = NO_INTEGERS + (0, -1, GREATEST_GAP + 1, LONG, -LONG)


def wrong_numbers(plan):
    return NO_INTEGERS + (-1, -2, len(plan[1]), len(plan[1]) + 1, LONG, -LONG, GREATEST_GAP)


class NeedPlan(unittest.TestCase):
    def test_a_plan_is_returned_itself(self):
        for plan in list(PLANS) + SMALL_PLANS:
            self.assertIs(need_plan(plan), plan)
            self.assertIs(need_plan(thing=plan), plan)

    def test_any_other_value_is_refused_at_the_first_wrong_place(self):
        for thing, place in WRONG_PLANS:
            check_refused(self, BadPlan, "place", place, need_plan, thing=thing)

    def test_the_edges_of_hands(self):
        for hands in (1, 2, 3):
            self.assertEqual(need_plan((hands, (1,))), (hands, (1,)))
        for hands in (0, 4):
            check_refused(self, BadPlan, "place", (0,), need_plan, thing=(hands, (1,)))

    def test_the_edges_of_gaps(self):
        for many in range(1, 9):
            for gap in (1, GREATEST_GAP):
                self.assertEqual(need_plan((1, (gap,) * many)), (1, (gap,) * many))
            for gap in (0, GREATEST_GAP + 1):
                gaps = (1,) * (many - 1) + (gap,)
                check_refused(self, BadPlan, "place", (1, many - 1), need_plan, thing=(1, gaps))
        for many in (0, 9):
            check_refused(self, BadPlan, "place", (1,), need_plan, thing=(1, (1,) * many))

    def test_each_kind_of_place_is_among_the_wrong_plans(self):
        self.assertEqual({place for _, place in WRONG_PLANS} & {(), (0,), (1,), (1, 0), (1, 7)},
                         {(), (0,), (1,), (1, 0), (1, 7)})


class ShareOf(unittest.TestCase):
    def test_it_is_the_sum_in_lowest_terms(self):
        for plan in list(PLANS) + SMALL_PLANS:
            total = sum((Fraction(1, gap) for gap in plan[1]), Fraction(0))
            check_result(self, (total.numerator, total.denominator), share_of, plan=plan)

    def test_known_shares(self):
        check_result(self, (1, 1), share_of, plan=(1, (2, 3, 6)))
        check_result(self, (1, 1), share_of, plan=(1, (2, 4, 4)))
        check_result(self, (8, 1), share_of, plan=(3, (1,) * 8))
        check_result(self, (1, GREATEST_GAP), share_of, plan=(1, (GREATEST_GAP,)))
        check_result(self, (1, GREATEST_GAP // 8), share_of, plan=(1, (GREATEST_GAP,) * 8))

    def test_hands_do_not_matter(self):
        for hands in (1, 2, 3):
            check_result(self, (5, 6), share_of, plan=(hands, (2, 3)))


class HowMany(unittest.TestCase):
    def test_it_is_the_product_of_the_gaps(self):
        for plan in list(PLANS) + SMALL_PLANS:
            check_result(self, prod(plan[1]), how_many, plan=plan)

    def test_known_numbers(self):
        check_result(self, 1, how_many, plan=(3, (1,)))
        check_result(self, 32, how_many, plan=(1, (2, 4, 4)))
        check_result(self, 10 ** 240, how_many, plan=(1, (GREATEST_GAP,) * 8))


class WithGap(unittest.TestCase):
    def test_one_gap_is_another_one(self):
        for plan in PLANS:
            for number in range(len(plan[1])):
                for gap in (1, 2, plan[1][number], GREATEST_GAP):
                    gaps = list(plan[1])
                    gaps[number] = gap
                    check_result(self, (plan[0], tuple(gaps)), with_gap, plan=plan, number=number, gap=gap)

    def test_a_number_that_is_none_is_refused(self):
        for plan in PLANS:
            for number in wrong_numbers(plan):
                for gap in (1, 0, None):
                    check_refused(self, BadNumber, "value", number, with_gap, plan=plan, number=number, gap=gap)

    def test_a_gap_that_is_none_is_refused(self):
        for plan in PLANS:
            for gap in WRONG_GAPS:
                number = len(plan[1]) - 1
                check_refused(self, BadNumber, "value", gap, with_gap, plan=plan, number=number, gap=gap)

    def test_the_very_value_is_told(self):
        value = [1]
        self.assertIs(raised(self, BadNumber, with_gap, (1, (2, 3)), value, 1).value, value)
        self.assertIs(raised(self, BadNumber, with_gap, (1, (2, 3)), 1, value).value, value)

    def test_the_plan_that_was_passed_stays_as_it_was(self):
        plan = (1, (2, 4, 4))
        with_gap(plan, 1, 9)
        self.assertEqual(plan, (1, (2, 4, 4)))


class Without(unittest.TestCase):
    def test_one_thing_is_left_out(self):
        for plan in PLANS:
            if len(plan[1]) > 1:
                for number in range(len(plan[1])):
                    gaps = list(plan[1])
                    del gaps[number]
                    check_result(self, (plan[0], tuple(gaps)), without, plan=plan, number=number)

    def test_a_number_that_is_none_is_refused(self):
        for plan in PLANS:
            for number in wrong_numbers(plan):
                check_refused(self, BadNumber, "value", number, without, plan=plan, number=number)

    def test_the_only_thing_stays(self):
        for plan in ((1, (1,)), (3, (7,)), (2, (GREATEST_GAP,))):
            for number in NO_INTEGERS + INTEGERS:
                check_refused(self, BadNumber, "value", number, without, plan=plan, number=number)

    def test_one_of_two_may_go(self):
        check_result(self, (2, (5,)), without, plan=(2, (4, 5)), number=0)
        check_result(self, (2, (4,)), without, plan=(2, (4, 5)), number=1)


class WrongPlans(unittest.TestCase):
    def test_every_function_refuses_them_ahead_of_all_else(self):
        for plan, place in WRONG_PLANS:
            for call in (share_of, how_many):
                check_refused(self, BadPlan, "place", place, call, plan=plan)
            for number in (0, 9, None):
                check_refused(self, BadPlan, "place", place, without, plan=plan, number=number)
                for gap in (1, 0, "1"):
                    check_refused(self, BadPlan, "place", place, with_gap, plan=plan, number=number, gap=gap)
