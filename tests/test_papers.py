import itertools
import unittest
from math import prod

from oftenenough.errors import BadPaper, BadPlan, Never, TooGreat
from oftenenough.papers import check_plan, is_round, plan_paper, shortest_round
from oftenenough.standings import does_last
from tests.plain import Told, all_days, are_lost, fewest_days, is_at_most, is_round_plainly
from tests.values import (
    GREATEST_GAP, GREAT_PLANS, INTEGERS, LONG, NO_INTEGERS, ROUNDS, THOUSAND_PLANS, WRONG_PLANS, check_refused,
    check_result, otherwise, raised,
)

SMALL_PLANS = tuple((hands, gaps) for hands in (1, 2, 3) for many in (1, 2, 3, 4)
                    for gaps in itertools.product(range(1, 5), repeat=many) if prod(gaps) <= 32)
LOST = (
    ((1, (1, 1)), (((1, 1), 0),)),
    ((1, (2, 2, 2)), (((1, 1, 2), 0), ((1, 2, 1), 0), ((2, 1, 1), 0), ((2, 2, 2), 1))),
    ((2, (1, 1, 1)), (((1, 1, 1), 0),)),
    ((3, (1, 1, 1, 2)), (((1, 1, 1, 1), 0), ((1, 1, 1, 2), 1))),
    ((1, (1, 3)), (((1, 1), 0), ((1, 2), 1), ((1, 3), 2))),
    ((1, (1, 3)), (((1, 1), 5), ((1, 2), LONG), ((1, 3), LONG + 1))),
    ((1, (1, 1, GREATEST_GAP)), (((1, 1, GREATEST_GAP), 0),)),
    ((1, (2, 2, 2, GREATEST_GAP)), (
        ((1, 1, 2, GREATEST_GAP), 0), ((1, 2, 1, GREATEST_GAP), 0), ((2, 1, 1, GREATEST_GAP), 0),
        ((2, 2, 2, GREATEST_GAP), 1))),
    ((2, (1, 1, 1, GREATEST_GAP, GREATEST_GAP)), (((1, 1, 1, GREATEST_GAP, GREATEST_GAP), 77),)),
)


class IsRound(unittest.TestCase):
    def test_all_short_ones_against_the_days_repeated(self):
        found = set()
        for plan in ((1, (1,)), (1, (3,)), (1, (2, 2)), (1, (3, 2)), (1, (2, 4, 4)), (2, (1, 2)), (2, (2, 2, 3)),
                     (3, (1, 1)), (3, (2, 1, 3))):
            days = all_days((min(plan[0] + 1, 3), plan[1]))
            for many in range(5 if len(days) < 6 else 4):
                for value in itertools.product(days, repeat=many):
                    self.assertIs(is_round(plan, value), is_round_plainly(plan, value), (plan, value))
                    found.add((plan[0], is_round(plan, value)))
        self.assertEqual(len(found), 6)

    def test_known_rounds(self):
        for plan, days in ROUNDS:
            check_result(self, True, is_round, plan=plan, value=days)
            for turn in range(len(days)):
                check_result(self, True, is_round, plan=plan, value=days[turn:] + days[:turn])
            check_result(self, True, is_round, plan=plan, value=days * 3)

    def test_one_day_more_less_or_otherwise(self):
        for plan, days in ROUNDS:
            more = [days[:at] + (day,) + days[at:] for at in range(len(days) + 1) for day in all_days(plan)]
            less = [days[:at] + days[at + 1:] for at in range(len(days))]
            other = [days[:at] + (day,) + days[at + 1:] for at in range(len(days)) for day in all_days(plan)]
            answers = set()
            for value in more + less + other:
                self.assertIs(is_round(plan, value), is_round_plainly(plan, value), (plan, value))
                answers.add(is_round(plan, value))
            self.assertIn(False, answers, plan)

    def test_one_day_too_late_for_a_thing(self):
        check_result(self, True, is_round, plan=(1, (4, 2)), value=((1,), (0,), (1,), ()))
        check_result(self, False, is_round, plan=(1, (4, 2)), value=((1,), (0,), (1,), (), ()))
        check_result(self, False, is_round, plan=(1, (3, 2)), value=((1,), (0,), (1,), ()))
        # The two are near enough to each other, but not across the end.
        check_result(self, False, is_round, plan=(1, (2,)), value=((0,), (0,), (), ()))
        check_result(self, False, is_round, plan=(1, (2,)), value=((), (0,), (0,), ()))
        check_result(self, True, is_round, plan=(1, (3,)), value=((), (0,), (0,), ()))
        # A thing that never comes is not right, however great its GAP.
        check_result(self, False, is_round, plan=(1, (2, GREATEST_GAP)), value=((0,), ()))
        check_result(self, False, is_round, plan=(1, (GREATEST_GAP,)), value=((),) * 1000)

    def test_from_one_day_to_a_thousand(self):
        plan = (1, (2, 2))
        check_result(self, True, is_round, plan=plan, value=((0,), (1,)) * 500)
        check_result(self, False, is_round, plan=plan, value=((0,), (1,)) * 499 + ((0,), (0,)))
        check_result(self, True, is_round, plan=(1, (2, 4)), value=((0,), (1,)) * 499 + ((0,), ()))
        check_result(self, False, is_round, plan=(1, (2, 3)), value=((0,), (1,)) * 499 + ((0,), ()))
        for gap in (1, 2, GREATEST_GAP):
            check_result(self, False, is_round, plan=(1, (gap,)), value=())
            check_result(self, True, is_round, plan=(1, (gap,)), value=((0,),))
            check_result(self, True, is_round, plan=(1, (gap,)), value=((0,),) * 1000)
            check_result(self, False, is_round, plan=(1, (gap,)), value=((0,),) * 1001)
        check_result(self, True, is_round, plan=(1, (1000,)), value=((),) * 999 + ((0,),))
        check_result(self, False, is_round, plan=(1, (999,)), value=((),) * 999 + ((0,),))
        check_result(self, False, is_round, plan=(1, (1001,)), value=((),) * 1000 + ((0,),))

    def test_values_of_every_kind(self):
        for plan, days in ROUNDS:
            for value in NO_INTEGERS + INTEGERS:
                self.assertIs(is_round(plan, value), is_round_plainly(plan, value))
            for value in otherwise(days, NO_INTEGERS + INTEGERS):
                self.assertIs(is_round(plan, value), is_round_plainly(plan, value), (plan, value))

    def test_more_things_than_hands(self):
        check_result(self, True, is_round, plan=(2, (1, 1)), value=((0, 1),))
        check_result(self, False, is_round, plan=(1, (1, 1)), value=((0, 1),))
        check_result(self, False, is_round, plan=(2, (1, 1)), value=((1, 0),))
        check_result(self, False, is_round, plan=(2, (1, 1)), value=((0, 1, 2),))
        check_result(self, False, is_round, plan=(3, (1, 1)), value=((0, 1, 1),))


class ShortestRound(unittest.TestCase):
    def check_round(self, plan):
        days = shortest_round(plan)
        self.assertTrue(is_round_plainly(plan, days), (plan, days))
        for told in (shortest_round(plan=plan), shortest_round(plan)):
            self.assertEqual(repr(told), repr(days))
        return len(days)

    def test_it_is_a_round_with_as_few_days_as_a_search_finds(self):
        found = set()
        for plan in SMALL_PLANS:
            if plan[1] in Told(plan).lasting:
                many = self.check_round(plan)
                found.add(many)
                # Where the search has nothing to find it would try too many.
                most = min(many, 4 if len(all_days(plan)) < 8 else 3)
                self.assertEqual(fewest_days(plan, most), many if many == most else None, plan)
        self.assertEqual(found, {1, 2, 3, 4})

    def test_longer_ones(self):
        for plan, many in (((1, (4, 2, 4)), 4), ((1, (2, 6, 6, 6)), 6), ((1, (3, 5, 5, 9)), 5), ((1, (3, 4, 6, 9)), 6),
                           ((1, (3, 4, 5, 8)), 8), ((1, (2, 4, 9, 11)), 8), ((2, (2, 3, 3, 3, 4, 4)), 12)):
            self.assertEqual(self.check_round(plan), many, plan)
            if many < 7:
                self.assertIsNone(fewest_days(plan, many - 1), plan)

    def test_with_a_hand_for_each_thing_one_day_is_enough(self):
        for plan in ((1, (1000,)), (2, (31, 32)), (3, (10, 10, 10)), (3, (1, 1)), (2, (1, 1))):
            self.assertEqual(self.check_round(plan), 1)

    def test_of_plans_with_just_a_thousand_standings(self):
        for plan in THOUSAND_PLANS:
            if does_last(plan):
                self.check_round(plan)
            else:
                self.assertEqual(vars(raised(self, Never, shortest_round, plan)), {})
        self.assertEqual(len(shortest_round((1, (10, 10, 10)))), 3)
        self.assertEqual(len(shortest_round((3, (2, 2, 2, 5, 5, 5)))), 2)

    def test_never(self):
        for plan in ((1, (2, 3, 6)), (1, (1, 1)), (1, (2, 3, 166)), (2, (1, 1, 333)), (3, (1, 1, 1, 1))):
            self.assertEqual(vars(raised(self, Never, shortest_round, plan)), {})
            self.assertEqual(vars(raised(self, Never, shortest_round, plan=plan)), {})

    def test_too_great_ahead_of_never(self):
        for plan in GREAT_PLANS:
            check_refused(self, TooGreat, "most", 1000, shortest_round, plan=plan)


class PlanPaper(unittest.TestCase):
    def check_paper(self, plan):
        """The PAPER holds, by the words of the document too, and is of the right kind."""
        told = plan_paper(plan)
        self.assertEqual(repr(plan_paper(plan=plan)), repr(told))
        word = "round" if does_last(plan) else "lost"
        check_result(self, word, check_plan, plan=plan, paper=told)
        self.assertIs(type(told), tuple)
        self.assertEqual(told[0], word)
        if word == "round":
            self.assertTrue(is_round_plainly(plan, told[1]), plan)
        return told

    def test_of_small_plans(self):
        found = set()
        for plan in SMALL_PLANS:
            word, told = self.check_paper(plan)
            found.add((plan[0], word))
            self.assertEqual(word == "round", plan[1] in Told(plan).lasting, plan)
            if word == "lost":
                self.assertEqual(list(told), sorted(told))
                self.assertTrue(are_lost(plan, told), plan)
                self.assertIn(plan[1], dict(told))
                self.assertEqual(len(dict(told)), len(told))
        self.assertEqual(found, {(hands, word) for hands in (1, 2, 3) for word in ("round", "lost")})

    def test_of_plans_with_just_a_thousand_standings(self):
        words = [self.check_paper(plan)[0] for plan in THOUSAND_PLANS]
        self.assertEqual(set(words), {"round", "lost"})

    def test_example_of_the_document(self):
        self.assertEqual(check_plan((1, (2, 3, 12)), plan_paper((1, (2, 3, 12)))), "lost")
        self.assertEqual(check_plan((1, (2, 4, 4)), plan_paper((1, (2, 4, 4)))), "round")
        self.assertEqual(len(shortest_round((1, (2, 4, 4)))), 4)

    def test_too_great(self):
        for plan in GREAT_PLANS:
            check_refused(self, TooGreat, "most", 1000, plan_paper, plan=plan)


class CheckPlan(unittest.TestCase):
    def check_lost(self, plan, ranks):
        """The answer for RANKS is the one that the words of the document give."""
        standings = [pair[0] for pair in ranks]
        holds = (list(ranks) == sorted(ranks) and len(set(standings)) == len(ranks) and plan[1] in standings
                 and all(is_at_most(standing, plan[1]) and min(standing) > 0 for standing in standings)
                 and all(rank >= 0 for _, rank in ranks) and are_lost(plan, ranks))
        if holds:
            self.assertEqual(check_plan(plan, ("lost", ranks)), "lost")
        else:
            self.assertEqual(raised(self, BadPaper, check_plan, plan, ("lost", ranks)).word, "lost")
        return holds

    def test_known_papers(self):
        for plan, days in ROUNDS:
            check_result(self, "round", check_plan, plan=plan, paper=("round", days))
            check_refused(self, BadPaper, "word", "lost", check_plan, plan=plan, paper=("lost", days))
            check_refused(self, BadPaper, "word", "round", check_plan, plan=plan, paper=("round", ()))
        for plan, ranks in LOST:
            check_result(self, "lost", check_plan, plan=plan, paper=("lost", ranks))
            check_refused(self, BadPaper, "word", "round", check_plan, plan=plan, paper=("round", ranks))
            check_refused(self, BadPaper, "word", "lost", check_plan, plan=plan, paper=("lost", ()))

    def test_one_pair_less_twice_or_elsewhere(self):
        told = [(plan, plan_paper(plan)[1]) for plan in SMALL_PLANS if not does_last(plan)]
        for plan, ranks in LOST + tuple(told[::5]):
            self.assertTrue(self.check_lost(plan, ranks))
            for at, pair in enumerate(ranks):
                self.check_lost(plan, ranks[:at] + ranks[at + 1:])
                self.assertFalse(self.check_lost(plan, ranks[:at] + (pair,) + ranks[at:]))
                self.assertFalse(self.check_lost(plan, ranks[:at] + ((pair[0], pair[1] + 1),) + ranks[at:]))
                if at > 0:
                    self.assertFalse(self.check_lost(plan, ranks[:at - 1] + (pair, ranks[at - 1]) + ranks[at + 1:]))
            self.assertFalse(self.check_lost(plan, ranks[:-1]))

    def test_one_number_otherwise_at_each_place(self):
        told = [(plan, plan_paper(plan)[1]) for plan in SMALL_PLANS if prod(plan[1]) < 12 and not does_last(plan)]
        for plan, ranks in LOST + tuple(told[::3]):
            for at, (standing, rank) in enumerate(ranks):
                for other in (rank - 1, rank + 1, 0, -1, LONG, max(rank for _, rank in ranks)):
                    self.check_lost(plan, ranks[:at] + ((standing, other),) + ranks[at + 1:])
                for number, left in enumerate(standing):
                    for other in (left - 1, left + 1, 0, -1, 1, plan[1][number], GREATEST_GAP + 1):
                        changed = standing[:number] + (other,) + standing[number + 1:]
                        self.check_lost(plan, ranks[:at] + ((changed, rank),) + ranks[at + 1:])
                        self.check_lost(plan, tuple(sorted(ranks[:at] + ((changed, rank),) + ranks[at + 1:])))

    def test_a_greater_standing_may_stand_for_a_lesser_one(self):
        plan = (1, (2, 2, 3))
        told = Told(plan)
        all_pairs = sorted((standing, told.longest(standing)) for standing in told.ways)
        greatest = tuple((one, rank) for one, rank in all_pairs
                         if not any(one != other and is_at_most(one, other) and rank == same
                                    for other, same in all_pairs))
        self.assertLess(len(greatest), len(all_pairs))
        self.assertTrue(self.check_lost(plan, greatest))
        for at, pair in enumerate(greatest):
            self.check_lost(plan, greatest[:at] + ((pair[0], pair[1] + 1),) + greatest[at + 1:])
            self.check_lost(plan, greatest[:at] + greatest[at + 1:])

    def test_an_equal_rank_is_not_enough(self):
        plan = (1, (1, 3))
        for ranks, holds in (((0, 1, 2), True), ((0, 0, 1), False), ((0, 1, 1), False), ((2, 1, 0), False),
                             ((3, 5, 9), True), ((1, 0, 2), False), ((0, 2, 1), False)):
            paper = tuple(zip(((1, 1), (1, 2), (1, 3)), ranks))
            self.assertIs(self.check_lost(plan, paper), holds)

    def test_what_lasts_has_no_ranks(self):
        for plan in ((1, (2, 2)), (1, (3, 3)), (2, (2, 2, 2)), (1, (2,)), (3, (1, 2))):
            standings = sorted(Told(plan).ways)
            for step in (-1, 1):
                ranks = [max(0, sum(standing) * step + 20) for standing in standings]
                self.assertFalse(self.check_lost(plan, tuple(zip(standings, ranks))))
        self.assertFalse(self.check_lost((1, (GREATEST_GAP,)), (((GREATEST_GAP,), 1),)))
        self.assertFalse(self.check_lost((1, (GREATEST_GAP,)), (((GREATEST_GAP - 1,), 0), ((GREATEST_GAP,), 1))))

    def test_things_of_every_kind_in_the_place_of_a_paper(self):
        wrong = [value for value in NO_INTEGERS + INTEGERS]
        wrong += [(value, ((0,),)) for value in NO_INTEGERS + INTEGERS]
        wrong += [("round",), ("lost",), ("round", ((0,),), 1), ["round", ((0,),)], ["lost", ()], (((0,),), "round"),
                  ("rounds", ((0,),)), ("Round", ((0,),)), ("", ((0,),)), ("lost ", ()), (("round",), ((0,),)),
                  "round", "lost", "ro", {"round": ((0,),)}, {0: "round", 1: ((0,),)}, (b"round", ((0,),))]
        for plan in ((1, (1,)), (2, (2, 2, 2)), (1, (GREATEST_GAP,)), (1, (1, 1))):
            for paper in wrong:
                check_refused(self, BadPaper, "word", "form", check_plan, plan=plan, paper=paper)

    def test_things_of_every_kind_in_the_place_of_a_round(self):
        for plan, days in ROUNDS:
            for value in NO_INTEGERS + INTEGERS:
                if not is_round_plainly(plan, value):
                    check_refused(self, BadPaper, "word", "round", check_plan, plan=plan, paper=("round", value))
            for value in otherwise(days, NO_INTEGERS):
                if not is_round_plainly(plan, value):
                    check_refused(self, BadPaper, "word", "round", check_plan, plan=plan, paper=("round", value))

    def test_things_of_every_kind_in_the_place_of_ranks(self):
        for plan, ranks in LOST:
            known = {repr(ranks)}
            for value in list(NO_INTEGERS + INTEGERS) + list(otherwise(ranks, NO_INTEGERS + (-1,))):
                if not self.is_in_form(value) and repr(value) not in known:
                    check_refused(self, BadPaper, "word", "lost", check_plan, plan=plan, paper=("lost", value))

    def is_in_form(self, value):
        """Whether a value is a tuple of pairs of a tuple of integers and an integer, so that check_lost takes it."""
        return isinstance(value, tuple) and all(
            isinstance(pair, tuple) and len(pair) == 2 and isinstance(pair[0], tuple)
            and all(type(left) is int for left in pair[0] + pair[1:]) for pair in value)

    def test_a_paper_with_gaps_of_thirty_figures_that_fails_late(self):
        plan = (1, (2, 2, GREATEST_GAP))
        self.assertFalse(self.check_lost(plan, (((1, 1, GREATEST_GAP), 0), ((2, 2, GREATEST_GAP), 1))))
        self.assertFalse(self.check_lost(plan, (((1, 1, GREATEST_GAP), 0), ((1, 2, GREATEST_GAP), 3),
                                                ((2, 1, GREATEST_GAP), 2), ((2, 2, GREATEST_GAP), 4))))

    def test_long_papers(self):
        plan = (1, (2, 3, 12, 30))
        told = Told(plan)
        ranks = tuple((standing, told.longest(standing)) for standing in sorted(told.ways))
        self.assertEqual(len(ranks), 2160)
        self.assertEqual(check_plan(plan, ("lost", ranks)), "lost")
        for at, (standing, rank) in enumerate(ranks):
            # Where a DAY is right there has to be a lesser RANK.
            if rank > 0 and at % 200 in (0, 159):
                wrong = ranks[:at] + ((standing, 0),) + ranks[at + 1:]
                self.assertEqual(raised(self, BadPaper, check_plan, plan, ("lost", wrong)).word, "lost")
        self.assertEqual(raised(self, BadPaper, check_plan, plan, ("lost", ranks[:-1])).word, "lost")


class WrongPlans(unittest.TestCase):
    def test_every_function_refuses_them_ahead_of_all_else(self):
        for plan, place in WRONG_PLANS:
            check_refused(self, BadPlan, "place", place, shortest_round, plan=plan)
            check_refused(self, BadPlan, "place", place, plan_paper, plan=plan)
            for other in ((), None, ("round", ((0,),)), ((0,),)):
                check_refused(self, BadPlan, "place", place, is_round, plan=plan, value=other)
                check_refused(self, BadPlan, "place", place, check_plan, plan=plan, paper=other)
