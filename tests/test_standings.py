import itertools
import unittest
from fractions import Fraction
from math import prod

from oftenenough.errors import BadPlan, BadStanding, TooGreat
from oftenenough.standings import does_last, lasting_days, lasts, least_standings, longest
from tests.plain import Told, is_at_most
from tests.values import (
    GREAT_PLANS, PLANS, THOUSAND_PLANS, WRONG_PLANS, check_refused, check_result, raised, wrong_standings,
)

# In each of these all STANDINGS are looked at, in SMALL_PLANS only the first one and the least ones.
LOOKED_AT_PLANS = (
    (1, (1,)), (1, (4,)), (1, (1, 3)), (1, (2, 2)), (1, (3, 2)), (1, (2, 4, 4)), (1, (4, 2, 3)), (1, (3, 3, 3)),
    (2, (1, 1)), (2, (1, 2, 2)), (2, (1, 3, 2)), (2, (2, 2, 2, 2)), (2, (2, 1, 2, 3)), (2, (3, 2, 2, 2)),
    (3, (1,)), (3, (2, 1, 3)), (3, (1, 1, 1, 2)), (3, (1, 2, 1, 2)), (3, (2, 2, 2, 2, 2)), (3, (2, 1, 2, 2, 2)),
)
SMALL_PLANS = tuple((hands, gaps) for hands in (1, 2, 3) for many in (1, 2, 3, 4)
                    for gaps in itertools.combinations_with_replacement(range(1, 6), many) if prod(gaps) <= 100)


def sorted_gaps(most, many, least=1):
    """Tuples of so many GAPS, none less than the one ahead, that multiplied are no more than most."""
    if many == 0:
        yield ()
        return
    for gap in range(least, most + 1):
        for others in sorted_gaps(most // gap, many - 1, gap):
            yield (gap,) + others


def share(plan):
    return sum(Fraction(1, gap) for gap in plan[1])


class Looked(unittest.TestCase):
    """Against a search that tells one DAY more in turn."""

    def test_plans_of_one_two_and_three_hands_that_last_and_that_do_not(self):
        found = set()
        for plan in SMALL_PLANS:
            told = Told(plan)
            self.assertIs(does_last(plan), plan[1] in told.lasting, plan)
            self.assertEqual(least_standings(plan), told.least(), plan)
            self.assertEqual(longest(plan, plan[1]), told.longest(plan[1]), plan)
            found.add((plan[0], does_last(plan)))
        self.assertEqual(found, {(hands, answer) for hands in (1, 2, 3) for answer in (True, False)})

    def test_all_standings_of_some_plans(self):
        for plan in LOOKED_AT_PLANS:
            told = Told(plan)
            check_result(self, plan[1] in told.lasting, does_last, plan=plan)
            check_result(self, told.least(), least_standings, plan=plan)
            for standing in told.ways:
                check_result(self, standing in told.lasting, lasts, plan=plan, standing=standing)
                check_result(self, told.lasting_days(standing), lasting_days, plan=plan, standing=standing)
                check_result(self, told.longest(standing), longest, plan=plan, standing=standing)

    def test_there_are_standings_of_both_kinds_in_plans_that_last(self):
        for hands in (1, 2, 3):
            kinds = {(does_last(plan), standing in told.lasting)
                     for plan in LOOKED_AT_PLANS if plan[0] == hands for told in [Told(plan)] for standing in told.ways}
            self.assertEqual(kinds, {(True, True), (True, False), (False, False)})


class Known(unittest.TestCase):
    def test_examples_of_the_document(self):
        check_result(self, False, does_last, plan=(1, (2, 3, 6)))
        check_result(self, True, does_last, plan=(1, (2, 4, 4)))
        check_result(self, ((1, 2), (2, 1)), least_standings, plan=(1, (2, 2)))
        check_result(self, 0, longest, plan=(1, (2, 2)), standing=(1, 1))

    def test_two_and_three_leave_no_day_for_a_third_thing(self):
        for gap in (3, 4, 7, 20, 100, 166):
            check_result(self, False, does_last, plan=(1, (2, 3, gap)))
            check_result(self, True, does_last, plan=(2, (2, 3, gap)))

    def test_least_standings(self):
        check_result(self, ((1,),), least_standings, plan=(1, (1,)))
        check_result(self, ((1,),), least_standings, plan=(2, (1000,)))
        check_result(self, (), least_standings, plan=(1, (1, 1)))
        check_result(self, (), least_standings, plan=(1, (2, 3, 6)))
        check_result(self, ((1, 1, 1),), least_standings, plan=(3, (1, 5, 2)))
        check_result(self, tuple(sorted(itertools.permutations((1, 2, 3)))), least_standings, plan=(1, (3, 3, 3)))
        check_result(self, ((1, 2, 4), (1, 4, 2), (2, 1, 3), (2, 3, 1)), least_standings, plan=(1, (2, 4, 4)))

    def test_lasting_days(self):
        plan = (1, (2, 2))
        check_result(self, ((0,), (1,)), lasting_days, plan=plan, standing=(2, 2))
        check_result(self, ((0,),), lasting_days, plan=plan, standing=(1, 2))
        check_result(self, ((1,),), lasting_days, plan=plan, standing=(2, 1))
        check_result(self, (), lasting_days, plan=plan, standing=(1, 1))
        check_result(self, (), lasting_days, plan=(1, (2, 3, 6)), standing=(2, 3, 6))
        check_result(self, ((), (0,)), lasting_days, plan=(3, (2,)), standing=(2,))
        check_result(self, ((), (0,), (0, 1), (0, 2), (1,), (1, 2), (2,)), lasting_days,
                     plan=(2, (3, 3, 3)), standing=(3, 3, 3))
        check_result(self, ((0, 1),), lasting_days, plan=(2, (2, 2, 3)), standing=(1, 1, 3))

    def test_how_many_right_days_can_be_told(self):
        check_result(self, None, longest, plan=(1, (2, 2)), standing=(2, 2))
        check_result(self, None, longest, plan=(1, (2, 2)), standing=(1, 2))
        check_result(self, 999, longest, plan=(1, (1, 1000)), standing=(1, 1000))
        check_result(self, 499, longest, plan=(1, (1, 1000)), standing=(1, 500))
        check_result(self, 0, longest, plan=(1, (1, 1000)), standing=(1, 1))
        check_result(self, 0, longest, plan=(3, (1,) * 8), standing=(1,) * 8)
        check_result(self, 1, longest, plan=(1, (2, 2, 2)), standing=(2, 2, 2))
        check_result(self, 7, longest, plan=(1, (2, 3, 6)), standing=(2, 3, 6))

    def test_what_lasts_with_as_many_hands_as_things(self):
        for plan in ((1, (1,)), (2, (1, 1)), (3, (1, 1, 1)), (3, (1, 1))):
            check_result(self, True, does_last, plan=plan)
            check_result(self, ((1,) * len(plan[1]),), least_standings, plan=plan)
        for plan in ((1, (1, 1)), (1, (1, 9)), (2, (1, 1, 1)), (2, (1, 1, 500)), (3, (1, 1, 1, 1)), (3, (1, 1, 1, 77))):
            check_result(self, False, does_last, plan=plan)


class Facts(unittest.TestCase):
    def test_a_standing_lasts_if_a_least_one_is_at_most_it(self):
        for plan in LOOKED_AT_PLANS:
            least = least_standings(plan)
            for standing in Told(plan).ways:
                self.assertIs(lasts(plan, standing), any(is_at_most(one, standing) for one in least), (plan, standing))

    def test_no_least_standing_is_at_most_another_one(self):
        for plan in LOOKED_AT_PLANS + THOUSAND_PLANS:
            for one, other in itertools.permutations(least_standings(plan), 2):
                self.assertFalse(is_at_most(one, other), plan)

    def test_what_has_a_share_of_more_than_its_hands_does_not_last(self):
        for hands, many in ((1, 2), (1, 3), (1, 4), (2, 3), (2, 4), (3, 4), (3, 5)):
            for gaps in sorted_gaps(60, many):
                if share((hands, gaps)) > hands:
                    self.assertIs(does_last((hands, gaps)), False, (hands, gaps))

    def test_with_one_hand_what_has_a_share_of_five_sixths_lasts(self):
        for most, many in ((100, 1), (100, 2), (150, 3), (700, 4)):
            shares = []
            for gaps in sorted_gaps(most, many):
                if share((1, gaps)) <= Fraction(5, 6):
                    self.assertIs(does_last((1, gaps)), True, gaps)
                    shares.append(share((1, gaps)))
            self.assertGreater(max(shares), Fraction(4, 5) if many > 1 else 0)

    def test_the_share_does_not_decide_it_between_these(self):
        for gaps, answer in (((2, 3, 166), False), ((2, 4, 5), True), ((2, 4, 4), True), ((2, 3), True)):
            self.assertGreater(share((1, gaps)), Fraction(5, 6) - Fraction(1, 100))
            self.assertLessEqual(share((1, gaps)), 1)
            check_result(self, answer, does_last, plan=(1, gaps))


class Thousand(unittest.TestCase):
    def test_just_a_thousand_standings_are_looked_at(self):
        found = set()
        for plan in THOUSAND_PLANS:
            self.assertEqual(prod(plan[1]), 1000)
            told = Told(plan)
            self.assertIs(does_last(plan), plan[1] in told.lasting, plan)
            self.assertEqual(least_standings(plan), told.least(), plan)
            for standing in sorted(told.ways)[::173] + [plan[1]]:
                self.assertIs(lasts(plan, standing), standing in told.lasting, (plan, standing))
                self.assertEqual(lasting_days(plan, standing), told.lasting_days(standing), (plan, standing))
                self.assertEqual(longest(plan, standing), told.longest(standing), (plan, standing))
            found.add((plan[0], does_last(plan)))
        self.assertLessEqual({(1, True), (1, False), (2, True), (2, False), (3, True)}, found)

    def test_one_more_is_too_great(self):
        for plan in GREAT_PLANS:
            self.assertGreater(prod(plan[1]), 1000)
            check_refused(self, TooGreat, "most", 1000, does_last, plan=plan)
            check_refused(self, TooGreat, "most", 1000, least_standings, plan=plan)
            for standing in (plan[1], (1,) * len(plan[1])):
                for call in (lasts, lasting_days, longest):
                    check_refused(self, TooGreat, "most", 1000, call, plan=plan, standing=standing)


class Refused(unittest.TestCase):
    def test_a_wrong_plan_ahead_of_all_else(self):
        for plan, place in WRONG_PLANS:
            check_refused(self, BadPlan, "place", place, does_last, plan=plan)
            check_refused(self, BadPlan, "place", place, least_standings, plan=plan)
            for standing in ((), (2, 3), None):
                for call in (lasts, lasting_days, longest):
                    check_refused(self, BadPlan, "place", place, call, plan=plan, standing=standing)

    def test_a_wrong_standing_ahead_of_too_many(self):
        for plan in PLANS + GREAT_PLANS:
            for standing in wrong_standings(plan):
                for call in (lasts, lasting_days, longest):
                    check_refused(self, BadStanding, "value", standing, call, plan=plan, standing=standing)

    def test_the_very_value_is_told(self):
        value = [2, 3]
        for call in (lasts, lasting_days, longest):
            self.assertIs(raised(self, BadStanding, call, (1, (2, 3)), value).value, value)
