import itertools
import unittest
from math import prod

from oftenenough.errors import BadNumber, BadPlan, Never, TooGreat
from oftenenough.gaps import fewest_hands, least_gap, tight, widening
from oftenenough.standings import does_last
from tests.plain import Told
from tests.values import (
    GREATEST_GAP, GREAT_PLANS, LONG, NO_INTEGERS, PLANS, THOUSAND_PLANS, WRONG_PLANS, check_refused, check_result,
    raised,
)

SMALL_PLANS = tuple((hands, gaps) for hands in (1, 2, 3) for many in (1, 2, 3, 4, 5)
                    for gaps in itertools.combinations_with_replacement(range(1, 7), many) if prod(gaps) <= 60)
WITH_NONE_ROOM = ((1, (1,)), (1, (2, 2)), (1, (2, 3)), (1, (2, 4, 4)), (1, (3, 3, 3)), (1, (3, 4, 4)), (2, (1, 1)),
                  (2, (1, 2, 2)), (2, (1, 2, 3)), (2, (2, 2, 2, 2)), (3, (1, 1, 1)), (3, (1, 2, 2, 2, 3)))
LOST = ((1, (1, 1)), (1, (2, 2, 2)), (1, (2, 3, 6)), (2, (1, 1, 1)), (3, (1, 1, 1, 1)), (1, (1, 1000)),
        (1, (2, 2, 250)), (2, (1, 1, 1000)))


def lasts_plainly(plan):
    return plan[1] in Told(plan).lasting


def have_room(plan):
    """Whether a ROUND has a DAY with fewer than HANDS: whether one comes back to a STANDING from behind such a DAY."""
    told = Told(plan)
    ahead = {standing: {later for later in told.ways[standing].values() if later in told.lasting}
             for standing in told.lasting}
    for standing in told.lasting:
        for day, later in told.ways[standing].items():
            if len(day) < plan[0] and later in told.lasting:
                reached, newest = {later}, {later}
                while newest:
                    newest = {further for one in newest for further in ahead[one]} - reached
                    reached |= newest
                if standing in reached:
                    return True
    return False


def with_thing(others, number, gap):
    hands, gaps = others
    return hands, gaps[:number] + (gap,) + gaps[number:]


def least_gap_plainly(others, number):
    if not lasts_plainly(others) or not have_room(others):
        return None
    return next(gap for gap in itertools.count(1) if lasts_plainly(with_thing(others, number, gap)))


class LeastGap(unittest.TestCase):
    def test_against_a_search_over_all_gaps(self):
        found = set()
        for others in SMALL_PLANS:
            if prod(others[1]) <= 24:
                told = least_gap_plainly(others, 0)
                found.add((others[0], told))
                for number in {0, len(others[1])}:
                    for gap in (1, 2, 1000, GREATEST_GAP):
                        plan = with_thing(others, number, gap)
                        self.assertEqual(least_gap(plan, number), told, (plan, number))
        self.assertLessEqual({(1, None), (1, 2), (1, 3), (1, 4), (2, None), (2, 1), (2, 2), (2, 3), (3, None), (3, 1)},
                             found)

    def test_in_any_place(self):
        for number, plan in enumerate(((1, (77, 2, 5)), (1, (2, 77, 5)), (1, (2, 5, 77)))):
            check_result(self, 4, least_gap, plan=plan, number=number)
        for number, plan in enumerate(((2, (9, 1, 2, 5)), (2, (1, 9, 2, 5)), (2, (1, 2, 9, 5)), (2, (1, 2, 5, 9)))):
            check_result(self, 4, least_gap, plan=plan, number=number)

    def test_examples_of_the_document(self):
        check_result(self, 4, least_gap, plan=(1, (2, 5, 9)), number=2)
        check_result(self, None, least_gap, plan=(1, (2, 3, 9)), number=2)

    def test_none_where_the_others_do_not_last(self):
        for others in LOST:
            for number in range(len(others[1]) + 1):
                for gap in (1, 500, GREATEST_GAP):
                    check_result(self, None, least_gap, plan=with_thing(others, number, gap), number=number)

    def test_none_where_the_others_leave_no_room(self):
        for others in WITH_NONE_ROOM:
            self.assertTrue(lasts_plainly(others))
            self.assertFalse(have_room(others))
            for number in range(len(others[1]) + 1):
                for gap in (1, 7, GREATEST_GAP):
                    check_result(self, None, least_gap, plan=with_thing(others, number, gap), number=number)

    def test_one_of_the_only_thing(self):
        for hands in (1, 2, 3):
            for gap in (1, 2, 1000, 1001, GREATEST_GAP):
                check_result(self, 1, least_gap, plan=(hands, (gap,)), number=0)

    def test_the_gap_that_the_thing_has_does_not_matter(self):
        for gap in (1, 3, 4, 5, 1000, 1001, GREATEST_GAP):
            check_result(self, 4, least_gap, plan=(1, (2, 5, gap)), number=2)
            check_result(self, 2, least_gap, plan=(1, (gap, 2)), number=0)
            check_result(self, 1, least_gap, plan=(2, (gap, 1)), number=0)
            check_result(self, 1, least_gap, plan=(3, (gap,) + (1, 10, 100)), number=0)

    def test_too_great_of_a_plan_that_is_tried(self):
        # 1 is tried, then 2, by which there are 2,000 STANDINGS.
        for others in ((1, (10, 10, 10)), (1, (1000,)), (2, (1, 1000)), (1, (2, 500)), (2, (5, 2, 5, 2, 10))):
            self.assertEqual(prod(others[1]), 1000)
            self.assertTrue(lasts_plainly(others))
            for gap in (1, 2, GREATEST_GAP):
                plan = with_thing(others, 0, gap)
                check_refused(self, TooGreat, "most", 1000, least_gap, plan=plan, number=0)
        for others in ((1, (2, 4, 100)), (1, (4, 3, 30))):
            self.assertTrue(does_last(others))
            check_refused(self, TooGreat, "most", 1000, least_gap, plan=with_thing(others, 3, 9), number=3)

    def test_just_a_thousand_standings(self):
        check_result(self, 1, least_gap, plan=(3, (7, 1, 1000)), number=0)
        check_result(self, 1, least_gap, plan=(2, (10, 7, 100)), number=1)
        # The last one that is tried has just 1,000 of them.
        for plan, number, gap in (((1, (9, 500)), 0, 2), ((1, (2, 125, 9)), 2, 4), ((1, (2, 9, 125)), 1, 4),
                                  ((2, (1, 500, 9)), 2, 2)):
            others = (plan[0], plan[1][:number] + plan[1][number + 1:])
            self.assertEqual(prod(others[1]) * gap, 1000)
            self.assertEqual(least_gap_plainly(others, number), gap)
            check_result(self, gap, least_gap, plan=plan, number=number)

    def test_too_great_of_the_others(self):
        for others in GREAT_PLANS:
            if len(others[1]) < 8:
                for gap in (1, 5, GREATEST_GAP):
                    plan = with_thing(others, 0, gap)
                    check_refused(self, TooGreat, "most", 1000, least_gap, plan=plan, number=0)

    def test_wrong_numbers_ahead_of_too_great(self):
        for plan in PLANS + GREAT_PLANS:
            for number in NO_INTEGERS + (-1, len(plan[1]), len(plan[1]) + 1, LONG, -LONG):
                check_refused(self, BadNumber, "value", number, least_gap, plan=plan, number=number)


class Tight(unittest.TestCase):
    def test_against_plans_with_one_gap_less(self):
        found = set()
        for plan in SMALL_PLANS:
            if lasts_plainly(plan):
                hands, gaps = plan
                less = [(hands, gaps[:number] + (gap - 1,) + gaps[number + 1:]) for number, gap in enumerate(gaps)]
                told = tuple(number for number, gap in enumerate(gaps) if gap == 1 or not lasts_plainly(less[number]))
                check_result(self, told, tight, plan=plan)
                found.add((hands, len(told), len(gaps)))
            else:
                self.assertEqual(vars(raised(self, Never, tight, plan)), {})
        self.assertLessEqual({(1, 0, 2), (1, 1, 2), (1, 2, 2), (1, 2, 3), (1, 3, 3), (2, 2, 3), (2, 0, 3), (3, 0, 4)},
                             found)

    def test_known_ones(self):
        for plan, told in (((1, (2, 4, 5)), (0, 1)), ((1, (1,)), (0,)), ((1, (1000,)), ()), ((1, (2, 2)), (0, 1)),
                           ((1, (2, 3)), (0,)), ((1, (3, 2)), (1,)), ((3, (1, 2, 1)), (0, 2)), ((2, (1, 1)), (0, 1)),
                           ((1, (10, 10, 10)), ()), ((1, (2, 500)), (0,)), ((3, (1, 1, 10, 100)), (0, 1))):
            check_result(self, told, tight, plan=plan)

    def test_just_a_thousand_standings_and_more(self):
        for plan in THOUSAND_PLANS:
            if does_last(plan):
                self.assertEqual(tight(plan), tight(plan=plan))
            else:
                self.assertEqual(vars(raised(self, Never, tight, plan)), {})
        # TooGreat stands ahead of Never.
        for plan in GREAT_PLANS + ((1, (1, 1001)), (3, (1, 1, 1, 1, 1001))):
            check_refused(self, TooGreat, "most", 1000, tight, plan=plan)

    def test_never(self):
        for plan in LOST:
            self.assertEqual(vars(raised(self, Never, tight, plan)), {})
            self.assertEqual(vars(raised(self, Never, tight, plan=plan)), {})


class Widening(unittest.TestCase):
    def test_against_a_search(self):
        found = set()
        for hands, gaps in SMALL_PLANS:
            wider = [(hands, tuple(gap + more for gap in gaps)) for more in range(6)]
            few = list(itertools.takewhile(lambda plan: prod(plan[1]) <= 1000, wider))
            told = next((more for more, plan in enumerate(few) if lasts_plainly(plan)), None)
            if told is None:
                check_refused(self, TooGreat, "most", 1000, widening, plan=(hands, gaps))
            else:
                check_result(self, told, widening, plan=(hands, gaps))
            found.add((hands, told))
        self.assertLessEqual({(1, 0), (1, 1), (1, 2), (1, 3), (1, None), (2, 0), (2, 1), (2, 2), (3, 0), (3, 1)}, found)

    def test_known_ones(self):
        for plan, told in (((1, (1,)), 0), ((3, (1, 1, 1)), 0), ((1, (1, 1)), 1), ((1, (1, 1, 1)), 2),
                           ((1, (1, 1, 1, 1)), 3), ((1, (2, 3, 6)), 1), ((1, (2, 4, 4)), 0), ((2, (1,) * 4), 1),
                           ((2, (1,) * 6), 2), ((3, (1,) * 6), 1), ((1, (1, 499)), 1), ((2, (1, 1, 249)), 1)):
            check_result(self, told, widening, plan=plan)

    def test_too_great_of_each_plan_that_is_tried(self):
        for plan in GREAT_PLANS + ((1, (1, 1001)), (1, (1, 1000)), (1, (1, 500)), (1, (1,) * 5), (2, (1,) * 8),
                                   (1, (2, 2, 250)), (2, (1, 1, 250)), (1, (GREATEST_GAP, 1))):
            check_refused(self, TooGreat, "most", 1000, widening, plan=plan)
        for plan in THOUSAND_PLANS:
            if does_last(plan):
                check_result(self, 0, widening, plan=plan)


class FewestHands(unittest.TestCase):
    def test_against_each_number_of_hands(self):
        found = set()
        for _, gaps in SMALL_PLANS:
            told = next((hands for hands in (1, 2, 3) if lasts_plainly((hands, gaps))), None)
            for hands in (1, 2, 3):
                check_result(self, told, fewest_hands, plan=(hands, gaps))
            found.add(told)
        self.assertEqual(found, {1, 2, 3, None})

    def test_known_ones(self):
        for gaps, told in (((1000,), 1), ((1, 1000), 2), ((2, 3, 6), 2), ((2, 4, 4), 1), ((1, 1, 1), 3), ((1,) * 4, None),
                           ((1,) * 8, None), ((1, 1, 2, 2), 3), ((1, 1, 2, 500), 3), ((2, 2, 2, 5, 5, 5), 3),
                           ((1, 1, 1, 1000), None), ((1, 1, 2, 2, 2), None)):
            for hands in (1, 2, 3):
                check_result(self, told, fewest_hands, plan=(hands, gaps))

    def test_too_great(self):
        for _, gaps in GREAT_PLANS:
            for hands in (1, 2, 3):
                check_refused(self, TooGreat, "most", 1000, fewest_hands, plan=(hands, gaps))


class WrongPlans(unittest.TestCase):
    def test_every_function_refuses_them_ahead_of_all_else(self):
        for plan, place in WRONG_PLANS:
            for call in (tight, widening, fewest_hands):
                check_refused(self, BadPlan, "place", place, call, plan=plan)
            for number in (0, -1, 8, None, "0", True):
                check_refused(self, BadPlan, "place", place, least_gap, plan=plan, number=number)
