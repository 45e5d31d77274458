import itertools
import operator
import random
import unittest
from math import prod

from oftenenough.errors import BadDay, BadNumber, BadPlan, NothingLeft, TooGreat
from oftenenough.keeper import Keeper, under
from tests.plain import Told, all_days, right_ways
from tests.values import (
    GREATEST_GAP, GREAT_PLANS, INTEGERS, LONG, NO_INTEGERS, PLANS, THOUSAND_PLANS, WRONG_PLANS, check_refused,
    check_result, raised,
)

SMALL_PLANS = ((1, (1,)), (1, (3,)), (1, (2, 2)), (1, (2, 4, 4)), (1, (3, 4, 5)), (2, (1, 2)), (2, (2, 2, 2)),
               (2, (2, 3, 3)), (3, (2, 1, 3)), (3, (1, 2, 2, 2, 2)), (1, (1, 1)), (1, (2, 3, 6)))


def changed(plan, standing, other):
    """The STANDING behind a change, by the words of the document."""
    agos = [gap - left for gap, left in zip(plan[1], standing)]
    return tuple(gap - ago if gap - ago >= 1 else 1 for gap, ago in zip(other[1], agos))


def state(keeper):
    return keeper.plan, keeper.standing, keeper.row(), len(keeper)


def taken_back(keeper):
    """How a keeper stands, and how it stood behind each deed, the last one first."""
    twin, states = keeper.copy(), [state(keeper)]
    while len(twin):
        twin.undo()
        states.append(state(twin))
    return states


def done(plan, *deeds):
    """A keeper that has done DAYS and changes."""
    keeper = Keeper(plan)
    for deed in deeds:
        if deed and isinstance(deed[-1], tuple):
            keeper.change(deed)
        else:
            keeper.day(deed)
    return keeper


class Days(unittest.TestCase):
    def test_at_first(self):
        for plan in PLANS + GREAT_PLANS + THOUSAND_PLANS:
            for keeper in (Keeper(plan), Keeper(plan=plan)):
                self.assertEqual(state(keeper), (plan, plan[1], (), 0))

    def test_standings_behind_days(self):
        keeper = Keeper((1, (2, 4, 4)))
        for day, standing in (((0,), (2, 3, 3)), ((1,), (1, 4, 2)), ((0,), (2, 3, 1)), ((2,), (1, 2, 4)),
                              ((0,), (2, 1, 3)), ((1,), (1, 4, 2))):
            self.assertEqual(keeper.day(day), standing)
            self.assertEqual((keeper.plan, keeper.standing), ((1, (2, 4, 4)), standing))
        self.assertEqual(keeper.row(), ((0,), (1,), (0,), (2,), (0,), (1,)))
        self.assertEqual(len(keeper), 6)

    def test_all_days_of_small_plans(self):
        for plan in SMALL_PLANS:
            for row in itertools.product(all_days((3, plan[1])), repeat=2):
                keeper, standing = Keeper(plan), plan[1]
                for day in row:
                    ways = right_ways(plan, standing)
                    if day in ways:
                        self.assertEqual(keeper.day(day=day), ways[day])
                        standing = ways[day]
                    else:
                        check_refused(self, BadDay, "value", day, keeper.day, day=day)
                    self.assertEqual(keeper.standing, standing)

    def test_gaps_of_thirty_figures(self):
        keeper = Keeper((2, (GREATEST_GAP, 2)))
        self.assertEqual(keeper.day(()), (GREATEST_GAP - 1, 1))
        self.assertEqual(keeper.day((1,)), (GREATEST_GAP - 2, 2))
        self.assertEqual(keeper.ago(0), 2)
        self.assertEqual(keeper.day((0, 1)), (GREATEST_GAP, 2))

    def test_what_is_no_right_day_changes_nothing(self):
        for plan, before in (((1, (1,)), ((0,),)), ((1, (2, 4, 4)), ((0,), (1,))), ((3, (2, 1, 3)), ((0, 1, 2), (1,)))):
            keeper = done(plan, *before)
            states = taken_back(keeper)
            for value in NO_INTEGERS + INTEGERS + ((-1,), (len(plan[1]),), (1, 0), (0, 0), (0, 1, 2, 3), [0], {0}, "0"):
                if repr(value) not in [repr(day) for day in keeper.may()]:
                    told = raised(self, BadDay, keeper.day, value)
                    self.assertIs(told.value, value)
                    self.assertEqual(vars(told), {"value": value})
            self.assertEqual(taken_back(keeper), states)


class Changes(unittest.TestCase):
    def check(self, plan, days, other, standing):
        keeper = done(plan, *days)
        self.assertIsNone(keeper.change(other))
        self.assertEqual(state(keeper), (other, standing, days, len(days) + 1))
        same = done(plan, *days)
        same.change(plan=other)
        self.assertEqual(state(same), state(keeper))

    def test_lesser_and_greater_gaps(self):
        days = ((0,), (1,), (0,))
        plan = (1, (2, 4, 4))
        self.assertEqual(done(plan, *days).standing, (2, 3, 1))
        for gaps, standing in (((2, 4, 4), (2, 3, 1)), ((3, 5, 5), (3, 4, 2)), ((1, 3, 3), (1, 2, 1)),
                               ((1, 1, 1), (1, 1, 1)), ((9, 2, 2), (9, 1, 1)), ((1, 2, 4), (1, 1, 1)),
                               ((2, 4, 5), (2, 3, 2)), ((GREATEST_GAP,) * 3, (GREATEST_GAP, GREATEST_GAP - 1, GREATEST_GAP - 3))):
            for hands in (1, 2, 3):
                self.check(plan, days, (hands, gaps), standing)

    def test_all_changes_of_small_plans(self):
        for plan in SMALL_PLANS:
            for many in range(3):
                for row in itertools.product(all_days(plan), repeat=many):
                    standing = plan[1]
                    for day in row:
                        standing = right_ways(plan, standing).get(day) if standing else None
                    if standing and len(plan[1]) < 4:
                        for gaps in itertools.product((1, 2, 3, 6), repeat=len(plan[1])):
                            other = (plan[0] % 3 + 1, gaps)
                            self.check(plan, row, other, changed(plan, standing, other))

    def test_the_same_plan_is_a_deed_too(self):
        for plan in PLANS + GREAT_PLANS:
            keeper = Keeper(plan)
            keeper.change(plan)
            self.assertEqual(state(keeper), (plan, plan[1], (), 1))
            self.assertNotEqual(keeper, Keeper(plan))

    def test_what_must_come_within_one_day_came_as_long_ago_as_its_gap_allows(self):
        keeper = done((2, (5, 5, 5)), (0, 1), (0,), (), ())
        self.assertEqual([keeper.ago(number) for number in range(3)], [2, 3, 4])
        keeper.change((2, (2, 4, 5)))
        self.assertEqual(keeper.standing, (1, 1, 1))
        # Of the first one it is now told that it came 1 day ago, its new GAP less 1.
        self.assertEqual([keeper.ago(number) for number in range(3)], [1, 3, 4])
        keeper.change((3, (5, 5, 5)))
        self.assertEqual(keeper.standing, (4, 2, 1))

    def test_more_and_fewer_hands(self):
        keeper = done((2, (2, 2, 3)), (0, 1), (1,))
        self.assertEqual(keeper.may(), ((0, 2),) if keeper.standing == (1, 2, 1) else None)
        keeper.change((1, (2, 2, 3)))
        self.assertEqual((keeper.may(), keeper.keep(), keeper.lasts(), keeper.advice()), ((), (), False, None))
        check_refused(self, BadDay, "value", (0, 2), keeper.day, day=(0, 2))
        keeper.change((3, (2, 2, 3)))
        self.assertEqual(keeper.may(), ((0, 1, 2), (0, 2)))
        self.assertEqual(keeper.row(), ((0, 1), (1,)))

    def test_wrong_plans_change_nothing(self):
        keeper = done((1, (2, 4, 4)), (0,), (1, (2, 3, 3)), (1,))
        states = taken_back(keeper)
        for plan, place in WRONG_PLANS:
            check_refused(self, BadPlan, "place", place, keeper.change, plan=plan)
        for plan in PLANS + GREAT_PLANS:
            if len(plan[1]) != 3:
                check_refused(self, BadPlan, "place", (1,), keeper.change, plan=plan)
        self.assertEqual(taken_back(keeper), states)

    def test_a_wrong_first_plan(self):
        for plan, place in WRONG_PLANS:
            check_refused(self, BadPlan, "place", place, Keeper, plan=plan)


class Answers(unittest.TestCase):
    """May, keep, lasts, advice and ago."""

    def check(self, keeper, told):
        plan, standing = keeper.plan, keeper.standing
        ways = right_ways(plan, standing)
        kept = tuple(day for day in sorted(ways) if ways[day] in told.lasting)
        check_result(self, tuple(sorted(ways)), keeper.may)
        check_result(self, kept, keeper.keep)
        check_result(self, standing in told.lasting, keeper.lasts)
        fewest = [day for day in kept if len(day) == min(len(each) for each in kept)]
        check_result(self, min(fewest) if kept else None, keeper.advice)
        for number, (gap, left) in enumerate(zip(plan[1], standing)):
            check_result(self, gap - left, keeper.ago, number=number)
        return kept

    def test_of_all_standings_that_are_reached(self):
        found = set()
        for plan in SMALL_PLANS:
            told = Told(plan)
            met, rows = set(), [()]
            while rows:
                row = rows.pop()
                keeper = done(plan, *row)
                if keeper.standing not in met:
                    met.add(keeper.standing)
                    found.add((len(self.check(keeper, told)) > 0, keeper.lasts(), len(keeper.may()) > 0))
                    rows += [row + (day,) for day in right_ways(plan, keeper.standing)]
        self.assertEqual(found, {(True, True, True), (False, False, True), (False, False, False)})

    def test_behind_changes(self):
        told = {plan: Told(plan) for plan in ((1, (2, 4, 4)), (2, (2, 4, 4)), (1, (3, 4, 6)), (2, (1, 2, 2)))}
        for plan, other in itertools.permutations(told, 2):
            for row in itertools.product(all_days((1, plan[1])), repeat=3):
                try:
                    keeper = done(plan, *row)
                except BadDay:
                    continue
                keeper.change(other)
                self.check(keeper, told[other])

    def test_advice_is_of_the_days_with_the_fewest_things_the_least(self):
        for plan, days, advice in (((3, (3, 3, 3)), (), ()), ((3, (2, 2)), ((),), (0, 1)), ((1, (2, 4, 4)), (), (0,)),
                                   ((1, (2, 4, 4)), ((1,),), (0,)), ((2, (2, 4, 4)), ((1, 2),), (0,)), ((1, (1, 1)), (), None),
                                   ((2, (9, 2, 2)), ((),), (1, 2)), ((2, (2, 2, 2)), (), (0,)), ((3, (1, 5, 1)), (), (0, 2)),
                                   ((1, (2, 4, 4)), ((0,),), (1,))):
            self.assertEqual(done(plan, *days).advice(), advice, (plan, days))

    def test_wrong_numbers(self):
        for plan in ((1, (1,)), (1, (2, 4, 4)), (3, (1,) * 8), (1, (GREATEST_GAP,))):
            keeper = Keeper(plan)
            for number in NO_INTEGERS + (-1, len(plan[1]), len(plan[1]) + 1, LONG, -LONG):
                check_refused(self, BadNumber, "value", number, keeper.ago, number=number)

    def test_a_thousand_standings_and_more(self):
        for plan in THOUSAND_PLANS:
            if prod(plan[1]) == 1000 and len(plan[1]) in (1, 3, 6):
                self.check(Keeper(plan), Told(plan))
        for plan in GREAT_PLANS:
            keeper = Keeper(plan)
            for many in range(3):
                for call in (keeper.keep, keeper.lasts, keeper.advice):
                    self.assertEqual(vars(raised(self, TooGreat, call)), {"most": 1000})
                self.assertEqual(len(keeper), many)
                keeper.change(plan)
            ways = right_ways(plan, plan[1])
            self.assertEqual(keeper.may(), tuple(sorted(ways)))
            for day in keeper.may():
                self.assertEqual(keeper.day(day), ways[day])
                keeper.undo()

    def test_too_great_hangs_on_the_plan_as_it_is_now(self):
        keeper = Keeper((1, (2, 500)))
        self.assertIs(keeper.lasts(), True)
        keeper.change((1, (2, 501)))
        self.assertEqual(vars(raised(self, TooGreat, keeper.lasts)), {"most": 1000})
        keeper.undo()
        self.assertIs(keeper.lasts(), True)


class Undone(unittest.TestCase):
    def test_to_the_beginning(self):
        keeper = Keeper((1, (2, 4, 4)))
        states = [state(keeper)]
        for deed in ((0,), (2, (2, 4, 4)), (0, 1), (1, (3, 3, 3)), (2,), ()):
            keeper.change(deed) if deed and isinstance(deed[-1], tuple) else keeper.day(deed)
            states.append(state(keeper))
        self.assertEqual(states[-1], ((1, (3, 3, 3)), (1, 1, 2), ((0,), (0, 1), (2,), ()), 6))
        while len(states) > 1:
            self.assertEqual(state(keeper), states.pop())
            self.assertIsNone(keeper.undo())
        self.assertEqual(state(keeper), states[0])
        for _ in range(2):
            self.assertEqual(vars(raised(self, NothingLeft, keeper.undo)), {})
            self.assertEqual(state(keeper), states[0])
        keeper.day((1,))
        self.assertEqual(keeper.standing, (1, 4, 3))

    def test_four_hundred_deeds_and_one_more(self):
        keeper = Keeper((1, (2, 2)))
        for turn in range(200):
            keeper.day((turn % 2,))
            keeper.change((1 + turn % 3, (2, 2)))
        self.assertEqual(len(keeper), 400)
        states = taken_back(keeper)
        for day in keeper.may():
            check_refused(self, TooGreat, "most", 400, keeper.day, day=day)
        for plan in ((1, (2, 2)), (3, (5, GREATEST_GAP)), keeper.plan):
            check_refused(self, TooGreat, "most", 400, keeper.change, plan=plan)
        for day in (None, (5,), (0, 0), "0", [0], 0):
            check_refused(self, BadDay, "value", day, keeper.day, day=day)
        for plan, place in ((None, ()), ((0, (2, 2)), (0,)), ((1, (2, 2, 2)), (1,)), ((1, (2,)), (1,)), ((1, (2, 0)), (1, 1))):
            check_refused(self, BadPlan, "place", place, keeper.change, plan=plan)
        self.assertEqual(taken_back(keeper), states)
        self.assertEqual(len(keeper.row()), 200)
        keeper.undo()
        keeper.day(keeper.may()[0])
        check_refused(self, TooGreat, "most", 400, keeper.change, plan=(1, (2, 2)))
        for _ in range(400):
            keeper.undo()
        self.assertEqual(keeper, Keeper((1, (2, 2))))
        raised(self, NothingLeft, keeper.undo)

    def test_four_hundred_days(self):
        keeper = done((1, (1,)), *((0,),) * 400)
        self.assertEqual(keeper.row(), ((0,),) * 400)
        check_refused(self, TooGreat, "most", 400, keeper.day, day=(0,))
        check_refused(self, BadDay, "value", (), keeper.day, day=())

    def test_what_does_not_count_as_a_deed(self):
        keeper = Keeper((1, (2, 2)))
        for _ in range(401):
            keeper.day((0,))
            keeper.undo()
            keeper.may(), keeper.ago(0), keeper.row(), keeper.copy()
        self.assertEqual(len(keeper), 0)


class Copies(unittest.TestCase):
    def test_they_stand_alike_and_go_on_by_themselves(self):
        keeper = done((1, (2, 4, 4)), (0,), (2, (2, 3, 5)), (1,))
        states = taken_back(keeper)
        twin = keeper.copy()
        self.assertIsNot(twin, keeper)
        self.assertIs(type(twin), Keeper)
        self.assertEqual(twin, keeper)
        self.assertEqual(taken_back(twin), states)
        twin.day((0, 2))
        twin.change((1, (9, 9, 9)))
        self.assertEqual(taken_back(keeper), states)
        self.assertEqual(taken_back(twin)[2:], states)
        keeper.undo()
        keeper.undo()
        self.assertEqual(taken_back(keeper), states[2:])
        self.assertEqual(taken_back(twin)[2:], states)
        for _ in range(5):
            twin.undo()
        raised(self, NothingLeft, twin.undo)
        self.assertEqual(len(keeper), 1)

    def test_of_one_that_has_done_nothing_and_of_one_that_has_done_all(self):
        twin = Keeper((1, (1,))).copy()
        raised(self, NothingLeft, twin.undo)
        full = done((1, (1,)), *((0,),) * 400).copy()
        check_refused(self, TooGreat, "most", 400, full.day, day=(0,))


class Equal(unittest.TestCase):
    def check(self, one, other, told):
        for left, right in ((one, other), (other, one)):
            self.assertIs(left == right, told)
            self.assertIs(left != right, not told)

    def test_by_the_plan_at_first_and_the_deeds_in_turn(self):
        plan = (1, (2, 4, 4))
        made = [
            (plan,), ((2, (2, 4, 4)),), ((1, (4, 2, 4)),), ((1, (2, 4)),), (plan, (0,)), (plan, (1,)), (plan, ()),
            (plan, (0,), (1,)), (plan, (1,), (0,)), (plan, plan), (plan, plan, plan), (plan, (2, (2, 4, 4))),
            (plan, (0,), plan), (plan, plan, (0,)), ((2, (2, 4, 4)), plan), ((1, (3, 3, 3)), plan),
        ]
        for one, other in itertools.product(made, repeat=2):
            self.check(done(*one), done(*other), one == other)

    def test_what_was_taken_back_does_not_matter(self):
        keeper = done((1, (2, 4, 4)), (0,), (1, (9, 9, 9)), ())
        keeper.undo()
        keeper.undo()
        keeper.day((1,))
        self.check(keeper, done((1, (2, 4, 4)), (0,), (1,)), True)
        self.check(keeper, keeper, True)
        self.check(keeper, keeper.copy(), True)

    def test_alike_but_by_other_deeds(self):
        one, other = done((1, (2, 2)), (0,), (1,)), done((1, (2, 2)), (1,), (0,), (1,))
        self.assertEqual((one.plan, one.standing), (other.plan, other.standing))
        self.check(one, other, False)

    def test_with_values_that_are_no_keepers(self):
        class Like:
            def __eq__(self, other):
                return NotImplemented

        for keeper in (Keeper((1, (1,))), done((1, (2, 4, 4)), (0,))):
            for value in NO_INTEGERS + INTEGERS + (keeper.plan, keeper.standing, keeper.row(), [keeper], (keeper,), Keeper,
                                                   {"a": keeper}, object(), Like(), keeper.day):
                self.check(keeper, value, False)

    def test_other_operators_raise_type_error(self):
        keeper = Keeper((1, (2, 2)))
        for value in (keeper, keeper.copy(), 1, None, (), [], "a", {}, (1, (2, 2))):
            for sign in (operator.lt, operator.le, operator.gt, operator.ge, operator.add, operator.sub, operator.mul,
                         operator.and_, operator.or_, operator.contains, operator.getitem):
                with self.assertRaises(TypeError):
                    sign(keeper, value)
        for sign in (operator.neg, operator.invert, abs, iter):
            with self.assertRaises(TypeError):
                sign(keeper)


class Trials(unittest.TestCase):
    def setUp(self):
        self.keeper = done((1, (2, 4, 4)), (0,), (2, (2, 3, 5)), (1,))
        self.states = taken_back(self.keeper)

    def check_as_it_was(self):
        self.assertEqual(taken_back(self.keeper), self.states)

    def test_the_block_gets_the_keeper_itself(self):
        with self.keeper.trial() as same:
            self.assertIs(same, self.keeper)
            self.assertEqual(taken_back(same), self.states)
            self.assertEqual(same.day((0, 2)), (2, 2, 5))
            same.change((3, (1, 1, 1)))
            self.assertEqual((len(same), self.keeper.standing), (5, (1, 1, 1)))
        self.check_as_it_was()
        self.keeper.day((0,))
        self.assertEqual(taken_back(self.keeper)[1:], self.states)

    def test_what_was_done_ahead_is_taken_back_inside(self):
        with self.keeper.trial() as same:
            for _ in range(3):
                same.undo()
            raised(self, NothingLeft, same.undo)
            same.day((2,))
            self.assertEqual(same.row(), ((2,),))
        self.check_as_it_was()
        with self.keeper.trial():
            self.keeper.undo()
        self.check_as_it_was()

    def test_an_exception_passes(self):
        why = KeyError("why")
        with self.assertRaises(KeyError) as caught:
            with self.keeper.trial() as same:
                same.undo()
                same.day((0,))
                raise why
        self.assertIs(caught.exception, why)
        self.check_as_it_was()
        with self.assertRaises(BadDay):
            with self.keeper.trial() as same:
                same.day((0,))
                same.day((7,))
        self.check_as_it_was()
        for leave in (KeyboardInterrupt, SystemExit, GeneratorExit):
            with self.assertRaises(leave):
                with self.keeper.trial() as same:
                    same.undo()
                    raise leave()
            self.check_as_it_was()

    def test_one_in_another(self):
        with self.keeper.trial() as same:
            same.day((0,))
            inside = taken_back(same)
            with same.trial() as again:
                self.assertIs(again, self.keeper)
                again.undo()
                again.undo()
                with again.trial():
                    again.change((1, (1, 1, 1)))
                self.assertEqual(taken_back(again), inside[2:])
                again.change((3, (5, 5, 5)))
            self.assertEqual(taken_back(same), inside)
            with self.assertRaises(ZeroDivisionError):
                with same.trial():
                    same.undo()
                    raise ZeroDivisionError
            self.assertEqual(taken_back(same), inside)
        self.check_as_it_was()

    def test_one_trial_gone_over_twice_and_inside_of_itself(self):
        trial = self.keeper.trial()
        for _ in range(2):
            with trial as same:
                self.assertIs(same, self.keeper)
                same.day((0,))
                inside = taken_back(same)
                with trial as again:
                    again.undo()
                    again.undo()
                self.assertEqual(taken_back(same), inside)
            self.check_as_it_was()

    def test_it_is_as_it_was_when_the_block_began(self):
        trial = self.keeper.trial()
        self.keeper.day((0,))
        states = taken_back(self.keeper)
        with trial:
            self.keeper.undo()
            self.keeper.undo()
        self.assertEqual(taken_back(self.keeper), states)

    def test_copies_made_inside_stay_as_they_are(self):
        with self.keeper.trial() as same:
            same.day((0, 2))
            twin = same.copy()
        self.check_as_it_was()
        self.assertEqual(taken_back(twin)[1:], self.states)

    def test_return_and_break_leave_it_too(self):
        def first():
            with self.keeper.trial() as same:
                return same.day((0,))

        self.assertEqual(first(), (2, 2, 2))
        for _ in range(2):
            with self.keeper.trial() as same:
                same.undo()
                break
        self.check_as_it_was()

    def test_at_the_end_of_what_can_be_done(self):
        keeper = done((1, (1,)), *((0,),) * 400)
        with keeper.trial() as same:
            check_refused(self, TooGreat, "most", 400, same.day, day=(0,))
            same.undo()
            same.change((1, (2,)))
        self.assertEqual(keeper, done((1, (1,)), *((0,),) * 400))


class Under(unittest.TestCase):
    class Gives:
        """A manager of another kind, which notes what happens."""

        def __init__(self, given, quiet=False):
            self.given, self.quiet, self.notes = given, quiet, []

        def __enter__(self):
            self.notes.append("begun")
            return self.given

        def __exit__(self, kind, value, trace):
            self.notes.append(kind)
            return self.quiet

    def test_what_the_deed_returns(self):
        keeper = done((1, (2, 4, 4)), (0,))
        states = taken_back(keeper)
        check_result(self, (1, 4, 2), under, manager=keeper.trial(), deed=lambda one: one.day((1,)))
        self.assertIs(under(keeper.trial(), lambda one: one), keeper)
        self.assertIsNone(under(keeper.trial(), lambda one: one.undo()))
        self.assertEqual(taken_back(keeper), states)

    def test_an_exception_passes(self):
        keeper = done((1, (2, 4, 4)), (0,))
        states = taken_back(keeper)
        for day in ((0, 1), None, (7,)):
            self.assertEqual(raised(self, BadDay, under, keeper.trial(), lambda one: [one.undo(), one.day(day)]).value, day)
        self.assertEqual(taken_back(keeper), states)

    def test_one_under_another(self):
        keeper = done((1, (2, 4, 4)), (0,))
        told = under(keeper.trial(), lambda one: (one.day((1,)), under(one.trial(), lambda two: two.day((0,))), one.standing))
        self.assertEqual(told, ((1, 4, 2), (2, 3, 1), (1, 4, 2)))
        self.assertEqual(len(keeper), 1)

    def test_any_manager(self):
        manager = self.Gives([3, 4])
        self.assertEqual(under(manager, sum), 7)
        self.assertEqual(manager.notes, ["begun", None])
        with self.assertRaises(TypeError):
            under(manager, abs)
        self.assertEqual(manager.notes, ["begun", None, "begun", TypeError])
        self.assertIsNone(under(self.Gives("a", quiet=True), int))


class Long(unittest.TestCase):
    def test_many_deeds_of_every_kind_against_all_of_them_done_again(self):
        turns = random.Random(7)
        for plan in ((1, (2, 4, 4)), (2, (2, 3, 3, 4)), (3, (1, 2, 5))):
            keeper, stack = Keeper(plan), [(plan, plan[1], ())]
            for _ in range(300):
                now, standing, row = stack[-1]
                ways = right_ways(now, standing)
                what = turns.random()
                if what < 0.6 and ways:
                    day = turns.choice(sorted(ways))
                    self.assertEqual(keeper.day(day), ways[day])
                    stack.append((now, ways[day], row + (day,)))
                elif what < 0.8:
                    other = (turns.randint(1, 3), tuple(turns.randint(1, 9) for _ in plan[1]))
                    keeper.change(other)
                    stack.append((other, changed(now, standing, other), row))
                elif len(stack) > 1:
                    keeper.undo()
                    stack.pop()
                self.assertEqual(state(keeper), stack[-1] + (len(stack) - 1,))
