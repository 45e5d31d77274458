import itertools
import random
import unittest

from oftenenough.desk import Desk
from oftenenough.errors import BadPlan, BadText, NothingLeft, TooGreat, TurnError
from oftenenough.keeper import Keeper
from oftenenough.plans import share_of
from oftenenough.texts import day_text, plan_text, read_plan
from tests.plain import all_days
from tests.values import (
    GREATEST_GAP, GREAT_PLANS, INTEGERS, NO_INTEGERS, PLANS, THOUSAND_PLANS, WRONG_PLANS, check_refused, check_result,
)

WORDS = ("undo", "standing", "plan", "days", "row", "lasts", "may", "keep", "advice", "share")
# Lines that are none, whatever the desk has done.
NO_LINES = (
    "", " ", "\n", "x", "day", "day ", "change", "change ", "ago", "ago ", "none", "yes", "no", "done", "copy", "trial",
    "Day 0", "DAY 0", "days 0", " day 0", "day  0", "day 0 ", "day 0\n", "day\n0", "day 0 1", "day x", "day 0+", "day 00",
    "day 10", "day none", "day (0,)", "day 0,1", "day day 0", "0", "0+1", "hands 1 gaps 2 4 4", "change 1 2 4 4",
    "change hands 1 gaps", "change hands 1 gaps 2 4 4 ", "change  hands 1 gaps 2 4 4", "change hands 1  gaps 2 4 4",
    "change hands 0 gaps 2 4 4", "change hands 4 gaps 2 4 4", "change hands 1 gaps 2 4 0", "change hands 1 gaps 2 4",
    "change hands 1 gaps 2 4 4 4", "change hands 01 gaps 2 4 4", "change plan", "change hands 1 gaps 2 4 1" + "0" * 31,
    "change hands 1 gaps 2 4 1" + "0" * 29 + "1", "ago x", "ago 3", "ago 8", "ago 10", "ago 00", "ago 01", "ago +0",
    "ago -1", "ago -0", "ago 0 ", "ago  0", "ago 0 1", "ago 0\n", "ago 0+1", "ago -", "ago " + "1" * 31, "ago " + "1" * 32,
    "ago " + "9" * 19990, "x" * 20000,
) + tuple(line + end for line in WORDS for end in (" ", "\n", " 0", "s", " now")) + tuple(
    start + line for line in WORDS for start in (" ", "\n", "un ", "the "))


def state(desk):
    """All that a desk answers without doing anything, and what can be taken back."""
    twin, states = desk.keeper.copy(), []
    while len(twin):
        states.append((twin.plan, twin.standing, twin.row()))
        twin.undo()
    return [desk.say(line) for line in ("standing", "plan", "days", "row", "may", "share")], states


class Lines(unittest.TestCase):
    def check(self, desk, *lines):
        """Lines are answered as told beside them."""
        for line, told in lines:
            self.assertEqual(desk.say(line), told, line)

    def test_each_line(self):
        self.check(
            Desk("hands 1 gaps 2 4 4"), ("standing", "2 4 4"), ("plan", "hands 1 gaps 2 4 4"), ("days", "0"), ("row", "none"),
            ("share", "1 1"), ("lasts", "yes"), ("may", "- 0 1 2"), ("keep", "0 1 2"), ("advice", "0"), ("ago 0", "0"),
            ("day 0", "2 3 3"), ("days", "1"), ("row", "0"), ("keep", "1 2"), ("advice", "1"), ("ago 0", "0"), ("ago 1", "1"),
            ("ago 2", "1"), ("day 1", "1 4 2"), ("may", "0"), ("day 1", "no"), ("day 0+1", "no"), ("day -", "no"),
            ("day 0", "2 3 1"), ("row", "0 1 0"), ("change hands 2 gaps 5 5 2", "done"), ("plan", "hands 2 gaps 5 5 2"),
            ("standing", "5 4 1"), ("days", "3"), ("row", "0 1 0"), ("share", "9 10"), ("may", "0+2 1+2 2"),
            ("keep", "0+2 1+2 2"), ("advice", "2"), ("day 1+2", "4 5 2"), ("row", "0 1 0 1+2"), ("day -", "3 4 1"),
            ("row", "0 1 0 1+2 -"), ("days", "5"), ("undo", "done"), ("undo", "done"), ("undo", "done"),
            ("plan", "hands 1 gaps 2 4 4"), ("standing", "2 3 1"), ("row", "0 1 0"), ("undo", "done"), ("undo", "done"),
            ("undo", "done"), ("undo", "no"), ("standing", "2 4 4"), ("days", "0"), ("row", "none"))

    def test_none_and_not(self):
        self.check(
            Desk("hands 1 gaps 2 2"), ("day -", "1 1"), ("lasts", "not"), ("may", "none"), ("keep", "none"),
            ("advice", "none"), ("row", "-"), ("days", "1"), ("day 0", "no"), ("undo", "done"), ("lasts", "yes"))
        self.check(Desk("hands 1 gaps 2 3 6"), ("lasts", "not"), ("may", "- 0 1 2"), ("keep", "none"), ("advice", "none"),
                   ("share", "1 1"))
        self.check(Desk("hands 3 gaps 2"), ("may", "- 0"), ("keep", "- 0"), ("advice", "-"), ("share", "1 2"))
        self.check(Desk("hands 3 gaps 1 5 1"), ("may", "0+1+2 0+2"), ("advice", "0+2"), ("share", "11 5"))

    def test_days_are_written_as_they_were_done_whatever_the_plan_is_now(self):
        self.check(
            Desk("hands 3 gaps 3 3 3"), ("day 0+1+2", "3 3 3"), ("change hands 1 gaps 3 3 3", "done"), ("row", "0+1+2"),
            ("day 0", "3 2 2"), ("row", "0+1+2 0"), ("day 0+1", "no"), ("days", "2"))

    def test_ago_behind_a_change_by_which_things_are_due(self):
        self.check(
            Desk("hands 1 gaps 5 5"), ("day 0", "5 4"), ("day -", "4 3"), ("day -", "3 2"), ("ago 0", "2"), ("ago 1", "3"),
            ("change hands 1 gaps 9 2", "done"), ("standing", "7 1"), ("ago 0", "2"), ("ago 1", "1"),
            ("change hands 1 gaps 1 1", "done"), ("standing", "1 1"), ("ago 0", "0"), ("ago 1", "0"), ("may", "none"))

    def test_gaps_of_thirty_one_figures(self):
        most = str(GREATEST_GAP)
        self.check(
            Desk("hands 1 gaps " + most), ("standing", most), ("plan", "hands 1 gaps " + most), ("share", "1 " + most),
            ("may", "- 0"), ("day -", "9" * 30), ("ago 0", "1"), ("lasts", "no"), ("keep", "no"), ("advice", "no"),
            ("change hands 2 gaps 1" + "0" * 29, "done"), ("standing", "9" * 29), ("undo", "done"), ("row", "-"))

    def test_too_many_standings(self):
        for plan in GREAT_PLANS:
            desk = Desk(plan_text(plan))
            before = state(desk)
            self.check(desk, ("lasts", "no"), ("keep", "no"), ("advice", "no"), ("days", "0"))
            self.assertEqual(state(desk), before)
        for plan in THOUSAND_PLANS:
            keeper, desk = Keeper(plan), Desk(plan_text(plan))
            advice = keeper.advice()
            self.check(desk, ("lasts", "yes" if keeper.lasts() else "not"),
                       ("advice", "none" if advice is None else day_text(plan, advice)),
                       ("keep", " ".join(day_text(plan, day) for day in keeper.keep()) or "none"))

    def test_by_name_too(self):
        desk = Desk(text="hands 1 gaps 2 4 4")
        check_result(self, "2 4 4", desk.say, line="standing")
        check_result(self, "no", desk.say, line="stand")
        self.assertEqual(desk.say(line="day 0"), "2 3 3")

    def test_all_days_of_some_plans(self):
        for plan in PLANS:
            for day in all_days((3, plan[1])):
                desk, keeper = Desk(plan_text(plan)), Keeper(plan)
                told = desk.say("day " + day_text((3, plan[1]), day))
                if day in keeper.may():
                    self.assertEqual(told, " ".join(str(left) for left in keeper.day(day)))
                else:
                    self.assertEqual(told, "no")
                self.assertEqual(desk.keeper, keeper)

    def test_four_hundred_deeds(self):
        desk = Desk("hands 1 gaps 1")
        for _ in range(200):
            self.check(desk, ("day 0", "1"), ("change hands 2 gaps 1", "done"))
        before = state(desk)
        self.check(desk, ("day 0", "no"), ("change hands 1 gaps 1", "no"), ("days", "200"), ("row", "0 " * 199 + "0"))
        self.assertEqual(state(desk), before)
        self.check(desk, ("undo", "done"), ("day 0", "1"), ("day 0", "no"), ("days", "201"))


class NoLines(unittest.TestCase):
    def desks(self):
        """Desks that have done nothing, and some things."""
        for lines in ((), ("day 0", "day 1"), ("day 2", "change hands 2 gaps 2 4 5", "day 0+1")):
            desk = Desk("hands 1 gaps 2 4 4")
            for line in lines:
                self.assertNotEqual(desk.say(line), "no")
            yield desk

    def test_lines_that_are_none(self):
        for desk in self.desks():
            before = state(desk)
            for line in NO_LINES:
                self.assertEqual(desk.say(line), "no", line[:200])
                self.assertEqual(desk.say(line=line), "no", line[:200])
            self.assertEqual(state(desk), before)

    def test_what_is_no_string(self):
        for desk in self.desks():
            before = state(desk)
            for value in NO_INTEGERS + INTEGERS + (["undo"], ("undo",), b"undo", {"undo": 1}, ["day", "0"]):
                if not isinstance(value, str):
                    self.assertEqual(desk.say(value), "no")
            self.assertEqual(state(desk), before)

    def test_what_is_refused(self):
        for desk in self.desks():
            before = state(desk)
            right = [day_text((3, (1,) * 8), day) for day in desk.keeper.may()]
            for day in all_days((3, (1,) * 8)):
                text = day_text((3, (1,) * 8), day)
                if text not in right:
                    self.assertEqual(desk.say("day " + text), "no")
            for gaps in ("1", "1 1", "1 1 1 1", "1 1 1 1 1 1 1 1", "1 1 0", "0 1 1", "1 1 1" + "0" * 29 + "1"):
                self.assertEqual(desk.say("change hands 1 gaps " + gaps), "no")
            self.assertEqual(state(desk), before)


class TheKeeper(unittest.TestCase):
    def test_it_is_the_very_one_led_beside_it_too(self):
        desk = Desk("hands 1 gaps 2 4 4")
        keeper = desk.keeper
        self.assertIs(type(keeper), Keeper)
        self.assertIs(desk.keeper, keeper)
        self.assertEqual(keeper, Keeper((1, (2, 4, 4))))
        desk.say("day 0")
        self.assertEqual(keeper.standing, (2, 3, 3))
        keeper.day((1,))
        keeper.change((2, (3, 3, 3)))
        self.assertIs(desk.keeper, keeper)
        self.assertEqual([desk.say(line) for line in ("standing", "plan", "days", "row", "ago 1")],
                         ["2 3 1", "hands 2 gaps 3 3 3", "2", "0 1", "0"])
        with keeper.trial():
            self.assertEqual(desk.say("undo"), "done")
            self.assertEqual(desk.say("day 0+2"), "no")
            self.assertEqual(desk.say("day 0"), "2 3 1")
        self.assertEqual(desk.say("row"), "0 1")
        for _ in range(3):
            keeper.undo()
        with self.assertRaises(NothingLeft):
            keeper.undo()
        self.assertEqual((desk.say("undo"), desk.say("days")), ("no", "0"))

    def test_two_desks_are_led_by_themselves(self):
        one, other = Desk("hands 1 gaps 2 4 4"), Desk("hands 1 gaps 2 4 4")
        self.assertIsNot(one.keeper, other.keeper)
        one.say("day 0")
        self.assertEqual((one.say("days"), other.say("days")), ("1", "0"))

    def test_many_lines_beside_a_keeper(self):
        turns = random.Random(11)
        days = [day_text((3, (1,) * 4), day) for day in all_days((3, (1,) * 4))]
        for plan in ((1, (2, 4, 4)), (2, (2, 3, 4, 4)), (3, (1, 5))):
            desk, keeper = Desk(plan_text(plan)), Keeper(plan)
            for _ in range(500):
                what = turns.choice(("day", "day", "day", "change", "undo"))
                if what == "day":
                    self.check_deed(desk, keeper, "day " + turns.choice(days))
                elif what == "change":
                    gaps = " ".join(str(turns.randint(1, 6)) for _ in plan[1])
                    self.check_deed(desk, keeper, "change hands " + str(turns.randint(1, 3)) + " gaps " + gaps)
                else:
                    self.check_deed(desk, keeper, "undo")

    def check_deed(self, desk, keeper, line):
        """A line does what a keeper that is led by itself does."""
        word, _, text = line.partition(" ")
        try:
            if word == "undo":
                keeper.undo()
            elif word == "change":
                keeper.change(read_plan(text))
            else:
                keeper.day(() if text == "-" else tuple(int(part) for part in text.split("+")))
            told = " ".join(map(str, keeper.standing)) if word == "day" else "done"
        except (TurnError, TooGreat):
            told = "no"
        self.assertEqual(desk.say(line), told)
        self.assertEqual(desk.keeper, keeper)
        self.assertEqual(desk.say("standing"), " ".join(map(str, keeper.standing)))
        self.assertEqual(desk.say("share"), "{} {}".format(*share_of(keeper.plan)))
        self.assertEqual(desk.say("days"), str(len(keeper.row())))


class Opened(unittest.TestCase):
    def test_by_what_is_no_text_of_a_plan(self):
        for value in NO_INTEGERS + INTEGERS:
            if not isinstance(value, str):
                check_refused(self, BadText, "word", None, Desk, text=value)
        for text, word in (("", 0), ("1", 0), ("hands 1", 2), ("hands 1 gaps", 3), ("hands 1 gaps 2 ", 4), ("day 0", 0),
                           ("hands 01 gaps 2", 1), ("hands 1 gaps" + " 1" * 9, 11)):
            check_refused(self, BadText, "word", word, Desk, text=text)

    def test_by_the_text_of_what_is_no_plan(self):
        for text, place in (("hands 0 gaps 2", (0,)), ("hands 4 gaps 2", (0,)), ("hands 1 gaps 2 0", (1, 1)),
                            ("hands 1 gaps " + "9" * 31, (1, 0))):
            check_refused(self, BadPlan, "place", place, Desk, text=text)
        for plan, _ in WRONG_PLANS:
            if not isinstance(plan, str):
                check_refused(self, BadText, "word", None, Desk, text=plan)

    def test_by_plans_of_every_size(self):
        for plan in PLANS + GREAT_PLANS + THOUSAND_PLANS:
            self.assertEqual(Desk(plan_text(plan)).keeper, Keeper(plan))
            self.assertEqual(Desk(text=plan_text(plan)).say("plan"), plan_text(plan))
        for hands, gap in itertools.product((1, 2, 3), (1, GREATEST_GAP)):
            self.assertEqual(Desk(plan_text((hands, (gap,)))).keeper.plan, (hands, (gap,)))
