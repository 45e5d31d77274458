import itertools
import unittest
from fractions import Fraction
from math import prod

from oftenenough.errors import BadPaper, BadPlan, BadRow, Never, TooGreat
from oftenenough.loads import check_load, least_load, load, load_paper
from oftenenough.papers import shortest_round
from tests.plain import Told, all_days, goes_round, is_round_plainly, least_mean, share_pair
from tests.values import (
    GREATEST_GAP, GREAT_PLANS, INTEGERS, LONG, NO_INTEGERS, ROUNDS, THOUSAND_PLANS, WRONG_PLANS, check_refused,
    check_result, otherwise, raised,
)

SMALL_PLANS = tuple((hands, gaps) for hands in (1, 2, 3) for many in (1, 2, 3, 4)
                    for gaps in itertools.product(range(1, 6), repeat=many) if prod(gaps) <= 24)
LOST_PLANS = ((1, (1, 1)), (1, (2, 3, 6)), (1, (2, 2, 2)), (2, (1, 1, 1)), (2, (1, 1, 7)), (3, (1, 1, 1, 1)),
              (1, (1, 1000)), (1, (2, 2, 250)), (1, (2, 4, 5, 25)), (1, (5, 2, 4, 25)), (2, (1, 1, 1000)),
              (3, (5, 1, 2, 2, 2, 1, 5, 5)))
# Plans of which each PAPER with one thing otherwise is looked at.
LOOKED_AT_PLANS = ((1, (1,)), (1, (3,)), (1, (2, 2)), (1, (3, 2)), (1, (2, 4, 4)), (2, (1, 2)), (2, (2, 2, 2)),
                   (3, (2, 1, 3)), (3, (2, 1, 1, 2)))


def share(days):
    return share_pair(Fraction(sum(len(day) for day in days), len(days)))


def hold(told, least, heights):
    """Whether HEIGHTS, a dict of all STANDINGS that last, are as the document says."""
    above, below = least
    return all(heights[later] + below * len(day) >= heights[standing] + above
               for standing in told.lasting for day, later in told.ways[standing].items() if later in told.lasting)


def wrong_word(told, plan, paper):
    """The word with which a PAPER is refused, None if it holds."""
    if not isinstance(paper, tuple) or len(paper) != 3:
        return "form"
    days, least, heights = paper
    if not is_round_plainly(plan, days) or repr(least) != repr(share(days)):
        return "round"
    if not isinstance(heights, tuple) or not all(isinstance(pair, tuple) and len(pair) == 2 for pair in heights):
        return "heights"
    # Their texts tell True from 1.
    if repr([standing for standing, _ in heights]) != repr(sorted(told.lasting)):
        return "heights"
    if not all(type(height) is int for _, height in heights) or not hold(told, least, dict(heights)):
        return "heights"
    return None


class Load(unittest.TestCase):
    def test_known_rounds_as_they_are_turned_about_and_repeated(self):
        for plan, days in ROUNDS:
            for turn in range(len(days)):
                for times in (1, 2, 3, 1000 // len(days)):
                    value = (days[turn:] + days[:turn]) * times
                    check_result(self, share(days), load, plan=plan, value=value)

    def test_in_lowest_terms(self):
        for plan, days, told in (
                ((1, (2, 2)), ((0,), (1,)), (1, 1)), ((1, (2, 4)), ((0,), (1,), (0,), ()), (3, 4)),
                ((1, (2,)), ((0,), ()), (1, 2)), ((1, (2,)), ((0,), ()) * 3, (1, 2)),
                ((2, (2, 4)), ((0, 1), (), (0,), ()), (3, 4)), ((3, (2, 3, 4)), ((0, 1, 2), ()), (3, 2)),
                ((3, (1, 1, 1)), ((0, 1, 2), (0, 1, 2)), (3, 1)), ((2, (9, 9, 9)), ((0, 1), (1, 2), ()), (4, 3)),
                ((1, (4,)), ((0,), (), (0,), (), (), ()), (1, 3))):
            check_result(self, told, load, plan=plan, value=days)

    def test_of_one_and_of_a_thousand_days(self):
        for gap in (1, 1000, GREATEST_GAP):
            check_result(self, (1, 1), load, plan=(1, (gap,)), value=((0,),))
            check_result(self, (1, 1), load, plan=(1, (gap,)), value=((0,),) * 1000)
        check_result(self, (3, 1), load, plan=(3, (1, 2, 3)), value=((0, 1, 2),))
        check_result(self, (1, 1000), load, plan=(1, (1000,)), value=((),) * 999 + ((0,),))
        check_result(self, (1, 1000), load, plan=(1, (GREATEST_GAP,)), value=((),) * 999 + ((0,),))
        check_result(self, (999, 500), load, plan=(2, (GREATEST_GAP,) * 2), value=((0, 1),) * 999 + ((),))
        check_result(self, (2999, 1000), load, plan=(3, (1, 1, 2)), value=((0, 1, 2),) * 999 + ((0, 1),))

    def test_all_short_rows(self):
        for plan in ((1, (1,)), (1, (3,)), (1, (3, 2)), (2, (1, 2)), (2, (2, 2, 3)), (3, (2, 1, 3))):
            for many in range(4):
                for days in itertools.product(all_days(plan), repeat=many):
                    if many and goes_round(plan, days):
                        check_result(self, share(days), load, plan=plan, value=days)
                    else:
                        check_refused(self, BadRow, "place", None, load, plan=plan, value=days)

    def test_things_of_every_kind_that_are_no_round(self):
        for plan, days in ROUNDS:
            for value in list(NO_INTEGERS + INTEGERS) + list(otherwise(days, NO_INTEGERS)):
                if not is_round_plainly(plan, value):
                    check_refused(self, BadRow, "place", None, load, plan=plan, value=value)
            check_refused(self, BadRow, "place", None, load, plan=plan, value=days * 1001)

    def test_a_plan_that_never_lasts_or_has_too_many_standings_is_no_matter(self):
        for plan in LOST_PLANS:
            check_refused(self, BadRow, "place", None, load, plan=plan, value=((0,),))
        check_result(self, (1, 1), load, plan=(1, (2, GREATEST_GAP)), value=((0,), (1,)))
        check_refused(self, BadRow, "place", None, load, plan=(1, (2, GREATEST_GAP)), value=((0,), (0,)))


class LeastLoad(unittest.TestCase):
    def test_against_the_fewest_things_on_any_ring(self):
        found = set()
        for plan in SMALL_PLANS:
            told = Told(plan)
            if plan[1] in told.lasting:
                least = least_load(plan)
                self.assertEqual(least, share_pair(least_mean(told)), plan)
                found.add((plan[0], least))
            else:
                raised(self, Never, least_load, plan)
        self.assertEqual({hands for hands, _ in found}, {1, 2, 3})
        self.assertGreater(len(found), 60)

    def test_against_all_rounds_of_few_days(self):
        for plan, most in (((1, (1,)), 3), ((1, (2,)), 4), ((1, (5,)), 7), ((1, (2, 2)), 6), ((1, (2, 3)), 6),
                           ((1, (3, 3)), 6), ((2, (2, 2)), 5), ((2, (2, 3)), 6), ((2, (1, 3)), 5),
                           ((2, (2, 2, 2)), 4), ((3, (1, 2)), 4), ((3, (2, 1, 2)), 4)):
            loads = [Fraction(*load(plan, days)) for many in range(1, most + 1)
                     for days in itertools.product(all_days(plan), repeat=many) if goes_round(plan, days)]
            check_result(self, share_pair(min(loads)), least_load, plan=plan)

    def test_known_ones(self):
        for plan, least in (((1, (1,)), (1, 1)), ((1, (1000,)), (1, 1000)), ((1, (2, 4, 4)), (1, 1)),
                            ((1, (2, 4)), (3, 4)), ((1, (2, 3)), (1, 1)), ((2, (2, 3)), (5, 6)),
                            ((3, (1, 1, 1)), (3, 1)), ((2, (1, 500)), (501, 500)), ((2, (2, 2)), (1, 1)),
                            ((1, (2, 500)), (251, 500)), ((3, (10, 10, 10)), (3, 10)), ((2, (2, 499)), (501, 998)),
                            ((1, (2, 5)), (3, 4)), ((2, (2, 5)), (7, 10))):
            check_result(self, least, least_load, plan=plan)

    def test_never_more_than_the_load_of_any_round(self):
        for plan, days in ROUNDS:
            if prod(plan[1]) <= 1000:
                self.assertLessEqual(Fraction(*least_load(plan)), Fraction(*load(plan, days)))
        for plan in SMALL_PLANS + THOUSAND_PLANS:
            if plan not in LOST_PLANS and plan[1] in Told(plan).lasting:
                least = Fraction(*least_load(plan))
                self.assertLessEqual(least, Fraction(*load(plan, shortest_round(plan))))
                self.assertGreaterEqual(least, sum(Fraction(1, gap) for gap in plan[1]))

    def test_never_and_too_great_ahead_of_it(self):
        for call in (least_load, load_paper):
            for plan in LOST_PLANS:
                self.assertEqual(vars(raised(self, Never, call, plan)), {})
                self.assertEqual(vars(raised(self, Never, call, plan=plan)), {})
            for plan in GREAT_PLANS:
                check_refused(self, TooGreat, "most", 1000, call, plan=plan)
            # The second of these does not last either.
            check_refused(self, TooGreat, "most", 1000, call, plan=(1, (1, 1001)))
            check_refused(self, TooGreat, "most", 1000, call, plan=(1, (1, 1, 1001)))


class Papers(unittest.TestCase):
    def check_paper(self, plan):
        """The PAPER holds, by the words of the document too, and is of the right kind."""
        paper = load_paper(plan)
        self.assertEqual(repr(load_paper(plan=plan)), repr(paper))
        least = least_load(plan)
        check_result(self, least, check_load, plan=plan, paper=paper)
        self.assertIsNone(wrong_word(Told(plan), plan, paper), plan)
        self.assertEqual(load(plan, paper[0]), least)
        return paper

    def test_of_small_plans(self):
        for plan in SMALL_PLANS:
            if plan[1] in Told(plan).lasting:
                self.check_paper(plan)

    def test_of_plans_with_just_a_thousand_standings(self):
        lasting = [plan for plan in THOUSAND_PLANS if plan not in LOST_PLANS]
        for plan in lasting:
            self.assertEqual(prod(plan[1]), 1000)
            self.check_paper(plan)
        self.assertEqual({plan[0] for plan in lasting}, {1, 2, 3})

    def test_a_round_may_have_a_thousand_days(self):
        days, least, _ = self.check_paper((1, (1000,)))
        self.assertEqual((len(days), least), (1000, (1, 1000)))

    def test_plans_on_which_heights_are_long_lowered(self):
        for plan in ((3, (2, 99, 1, 5)), (2, (2, 499)), (3, (13, 3, 11, 2)), (2, (8, 9, 13)), (2, (5, 11, 18))):
            self.check_paper(plan)


class CheckLoad(unittest.TestCase):
    def check(self, told, plan, paper):
        """The answer is the one that the words of the document give; returns the word, None if the PAPER holds."""
        word = wrong_word(told, plan, paper)
        if word is None:
            self.assertEqual(repr(check_load(plan, paper)), repr(paper[1]))
        else:
            self.assertEqual(vars(raised(self, BadPaper, check_load, plan, paper)), {"word": word})
        return word

    def test_one_thing_otherwise_at_each_place(self):
        words = set()
        for plan in LOOKED_AT_PLANS:
            told = Told(plan)
            for paper in otherwise(load_paper(plan), (0, 1, -1, 2, True, None, (), "1", [], (1, 2), LONG)):
                words.add(self.check(told, plan, paper))
        self.assertEqual(words, {None, "form", "round", "heights"})

    def test_one_pair_left_out_put_in_or_turned_about(self):
        for plan in LOOKED_AT_PLANS:
            told = Told(plan)
            days, least, heights = load_paper(plan)
            for at, (standing, height) in enumerate(heights):
                for changed in (heights[:at] + heights[at + 1:], heights[:at] + heights[at:at + 1] + heights[at:],
                                heights[:at] + ((standing, height + 1),) + heights[at:],
                                heights[:at] + ((height, standing),) + heights[at + 1:],
                                heights[at + 1:] + heights[:at + 1] if at < len(heights) - 1 else heights[::-1] * 2):
                    self.assertEqual(self.check(told, plan, (days, least, changed)), "heights")
            lost = [one for one in told.ways if one not in told.lasting]
            for standing in lost + [tuple(gap + 1 for gap in plan[1]), (0,) * len(plan[1])]:
                changed = tuple(sorted(heights + ((standing, 0),)))
                self.assertEqual(self.check(told, plan, (days, least, changed)), "heights")

    def test_heights_all_greater_or_less_still_hold(self):
        for plan in LOOKED_AT_PLANS + ((3, (2, 2, 2, 5, 5, 5)),):
            days, least, heights = load_paper(plan)
            for more in (1, -1, 1000, -1000, LONG, -LONG):
                changed = tuple((standing, height + more) for standing, height in heights)
                check_result(self, least, check_load, plan=plan, paper=(days, least, changed))

    def test_each_height_as_far_as_it_holds_and_one_further(self):
        plan = (1, (3,))
        told = Told(plan)
        paper = (((0,), (), ()), (1, 3), (((1,), 0), ((2,), -1), ((3,), -2)))
        self.assertIsNone(self.check(told, plan, paper))
        # From 3 to 2, from 2 to 1 and from 1 to 3 each HEIGHT is just great enough.
        for at, wrong in itertools.product(range(3), (-1, 1)):
            heights = [(standing, height + wrong * (at == place)) for place, (standing, height) in enumerate(paper[2])]
            self.assertEqual(self.check(told, plan, paper[:2] + (tuple(heights),)), "heights")

    def test_a_round_that_goes_twice_or_is_turned_about_still_holds(self):
        for plan in LOOKED_AT_PLANS:
            days, least, heights = load_paper(plan)
            for changed in (days * 2, days * (1000 // len(days)), days[1:] + days[:1]):
                check_result(self, least, check_load, plan=plan, paper=(changed, least, heights))
            check_refused(self, BadPaper, "word", "round", check_load, plan=plan, paper=(days * 1001, least, heights))

    def test_another_round_with_its_own_load(self):
        for plan, days in (((1, (3,)), ((0,), ())), ((1, (2, 4)), ((0,), (1,))), ((2, (2, 3)), ((0, 1), ()))):
            _, least, heights = load_paper(plan)
            self.assertNotEqual(share(days), least)
            check_refused(self, BadPaper, "word", "round", check_load, plan=plan, paper=(days, least, heights))
            check_refused(self, BadPaper, "word", "heights", check_load, plan=plan, paper=(days, share(days), heights))

    def test_least_in_lowest_terms_as_a_pair_of_integers(self):
        plan = (1, (2, 2))
        days, _, heights = load_paper(plan)
        for least in ((2, 2), (1, True), (True, 1), (True, True), [1, 1], (1,), (1, 1, 1), 1, "11", None, (-1, -1),
                      (1, 2), (2, 1), ((1,), (1,)), {1: 1}, (1, 0), (0, 0), LONG):
            check_refused(self, BadPaper, "word", "round", check_load, plan=plan, paper=(days, least, heights))
        check_result(self, (1, 1), check_load, plan=plan, paper=(days, (1, 1), heights))

    def test_things_of_every_kind(self):
        for plan in ((1, (1,)), (1, (2, 2)), (3, (2, 1, 3))) + LOST_PLANS:
            told = Told(plan) if prod(plan[1]) < 100 else None
            for value in NO_INTEGERS + INTEGERS + ((1, 2, 3, 4), [((0,),), (1, 1), ()]):
                if value != (1, 2, 3):
                    check_refused(self, BadPaper, "word", "form", check_load, plan=plan, paper=value)
                paper = (((0,),), (1, 1), (((1,), 0),)) if plan in LOST_PLANS else load_paper(plan)
                for at in range(3):
                    changed = paper[:at] + (value,) + paper[at + 1:]
                    if told:
                        self.check(told, plan, changed)
                    else:
                        check_refused(self, BadPaper, "word", "round", check_load, plan=plan, paper=changed)

    def test_a_plan_that_does_not_last_has_no_paper(self):
        for plan in LOST_PLANS:
            for days in ((), ((0,),), ((0,), (1,)), ((0,), (0, 1))):
                for heights in ((), ((plan[1], 0),)):
                    check_refused(self, BadPaper, "word", "round", check_load, plan=plan, paper=(days, (1, 1), heights))
            check_refused(self, BadPaper, "word", "form", check_load, plan=plan, paper=((), (1, 1)))

    def test_too_great_ahead_of_all_papers(self):
        for plan in GREAT_PLANS:
            for paper in (None, (), ((), (1, 1), ()), (((0,),), (1, 1), ((plan[1], 0),))):
                check_refused(self, TooGreat, "most", 1000, check_load, plan=plan, paper=paper)


class WrongPlans(unittest.TestCase):
    def test_every_function_refuses_them_ahead_of_all_else(self):
        for plan, place in WRONG_PLANS:
            check_refused(self, BadPlan, "place", place, least_load, plan=plan)
            check_refused(self, BadPlan, "place", place, load_paper, plan=plan)
            for other in ((), None, (((0,),), (1, 1), ()), ((0,),)):
                check_refused(self, BadPlan, "place", place, load, plan=plan, value=other)
                check_refused(self, BadPlan, "place", place, check_load, plan=plan, paper=other)
