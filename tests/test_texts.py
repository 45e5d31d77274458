import itertools
import re
import unittest

from oftenenough.errors import BadDay, BadPlan, BadRow, BadText
from oftenenough.texts import day_text, plan_text, read_day, read_plan, read_row, row_text
from tests.plain import all_days, right_ways
from tests.values import (
    GREATEST_GAP, INTEGERS, LONG, NO_INTEGERS, PLANS, ROUNDS, WRONG_PLANS, check_refused, check_result, raised,
)

PLAN_TEXTS = (
    ((1, (2, 4, 4)), "hands 1 gaps 2 4 4"), ((1, (1,)), "hands 1 gaps 1"), ((3, (10,)), "hands 3 gaps 10"),
    ((2, (GREATEST_GAP,)), "hands 2 gaps 1" + "0" * 30), ((3, (1,) * 8), "hands 3 gaps 1 1 1 1 1 1 1 1"),
    ((2, (GREATEST_GAP - 1, 100, 9)), "hands 2 gaps " + "9" * 30 + " 100 9"),
    ((1, (GREATEST_GAP,) * 8), "hands 1 gaps" + (" 1" + "0" * 30) * 8),
)
DAY_TEXTS = (((), "-"), ((0,), "0"), ((7,), "7"), ((0, 2), "0+2"), ((1, 2, 3), "1+2+3"), ((5, 6, 7), "5+6+7"))
GREAT = (3, (9,) * 8)
# A plan, a ROW, and whether it is right.
ROW_TEXTS = (
    ((1, (2, 4, 4)), (), "none", True), ((1, (2, 4, 4)), ((0,), (1,), (0,), (2,)), "0 1 0 2", True),
    ((1, (2, 4, 4)), ((1,), (2,)), "1 2", False), ((1, (2, 4, 4)), ((),), "-", True),
    ((3, (9,) * 8), ((), (), (0, 1, 7), (), (2,)), "- - 0+1+7 - 2", True), ((1, (1,)), ((0,),) * 3, "0 0 0", True),
    ((1, (1,)), ((),), "-", False), ((2, (1, 2, 3)), ((0, 1), (0, 2)), "0+1 0+2", True),
    ((1, (1,)), ((0,),) * 1000, " ".join("0" * 1000), True), ((1, (1,)), ((),) * 1000, " ".join("-" * 1000), False),
)
# What can stand in a text in the place of a word, and what cannot.
WORDS = ("", "0", "1", "2", "4", "9", "10", "00", "01", "001", "+1", "-1", "+", "-", "--", "0+1", "1+0", "0+", "+0",
         "0++1", "0+-", "0-1", "0+1+2+3", "9+9", "10+1", "hands", "gaps", "hand", "Hands", "GAPS", "none", "None", "x",
         "1x", "1.0", "1_0", "0x1", "1e3", "1" * 31, "1" * 32, "9" * 31, "0" * 31, "0" * 32, "1" + "0" * 30,
         "1" + "0" * 31, "1" * 5000, "\n", "1\n", "\n1", "hands\n", "gaps\n", "none\n", "-\n", "0+1\n", "\t", "1,", "()")
# Each is a word of a text that has the form.
NUMBER = re.compile(r"(?:0|[1-9][0-9]{0,30})\Z")
DAY = re.compile(r"(?:-|[0-9](?:\+[0-9])*)\Z")


def fault_in_plan(text):
    """The word with which the text of a PLAN is refused, None if it has the form."""
    words = text.split(" ")
    for place, word in enumerate(words):
        if place in (0, 2):
            fits = word == ("hands", None, "gaps")[place]
        else:
            fits = place < 11 and NUMBER.match(word) is not None
        if not fits:
            return place
    return len(words) if len(words) < 4 else None


def fault_in_row(text):
    words = text.split(" ")
    if words[0] == "none":
        return 1 if len(words) > 1 else None
    return next((place for place, word in enumerate(words) if not DAY.match(word)), None)


def fault_in_day(text):
    words = text.split(" ")
    if not DAY.match(words[0]):
        return 0
    return 1 if len(words) > 1 else None


def otherwise_told(text, words):
    """The text with one word otherwise, left out or put in, at each place, and with other spaces."""
    told = text.split(" ")
    for at in range(len(told) + 1):
        for word in words:
            yield " ".join(told[:at] + [word] + told[at:])
            if at < len(told):
                yield " ".join(told[:at] + [word] + told[at + 1:])
        if at < len(told):
            yield " ".join(told[:at] + told[at + 1:])
            yield " ".join(told[:at + 1])
    yield from (" " + text, text + " ", text + "\n", "\n" + text, text.replace(" ", "  "), text.replace(" ", "\n"),
                text.upper(), text + " " + text, "", " ", "  ", "\n")


class PlanTexts(unittest.TestCase):
    def check_read(self, text):
        """A text is read as a PLAN or refused as the document says; returns what became of it."""
        fault = fault_in_plan(text)
        if fault is not None:
            check_refused(self, BadText, "word", fault, read_plan, text=text)
            return "text"
        words = text.split(" ")
        numbers = [int(word) for word in words if word not in ("hands", "gaps")]
        if not 1 <= numbers[0] <= 3:
            place = (0,)
        else:
            place = next(((1, at) for at, gap in enumerate(numbers[1:]) if not 1 <= gap <= GREATEST_GAP), None)
        if place is not None:
            check_refused(self, BadPlan, "place", place, read_plan, text=text)
            return "plan"
        check_result(self, (numbers[0], tuple(numbers[1:])), read_plan, text=text)
        return "read"

    def test_written_and_read_back(self):
        for plan, text in PLAN_TEXTS:
            check_result(self, text, plan_text, plan=plan)
            check_result(self, plan, read_plan, text=text)
        for plan in PLANS:
            self.assertEqual(read_plan(plan_text(plan)), plan)

    def test_one_word_otherwise_at_each_place(self):
        found = set()
        for _, text in PLAN_TEXTS:
            for other in otherwise_told(text, WORDS):
                found.add(self.check_read(other))
        self.assertEqual(found, {"text", "plan", "read"})

    def test_known_faults(self):
        for text, word in (("", 0), (" ", 0), ("hands", 1), ("hands ", 1), ("hands 1", 2), ("hands 1 ", 2),
                           ("hands 1 gaps", 3), ("hands 1 gaps ", 3), ("hands 1 gaps 2 ", 4), (" hands 1 gaps 2", 0),
                           ("hands  1 gaps 2", 1), ("hands 1  gaps 2", 2), ("hands 1 gaps  2", 3), ("hands x", 1),
                           ("hands 1 2 gaps 2", 2), ("hands 01 gaps 2", 1), ("hands +1 gaps 2", 1), ("hands -1 gaps 2", 1),
                           ("hands 1 gaps 02", 3), ("hands 1 gaps 2 -4", 4), ("hands 1 gaps " + "1" * 32, 3),
                           ("hands " + "1" * 32 + " gaps 1", 1), ("hands 1 gaps" + " 1" * 9, 11), ("gaps 1 hands 2", 0),
                           ("hands 1 gaps" + " 1" * 20, 11), ("hands 1 gaps 2\n", 3), ("hands 1\ngaps 2", 1), ("1 2", 0),
                           ("hands 1 gaps 2 gaps 3", 4), ("hands 1 gaps 2 hands", 4), ("x" * 20000, 0),
                           ("hands " + "1" * 19990, 1), ("hands 1 gaps 1 " + "0" * 19980, 4), (" " * 20000, 0)):
            check_refused(self, BadText, "word", word, read_plan, text=text)

    def test_what_has_the_form_and_is_no_plan(self):
        for text, place in (("hands 0 gaps 2", (0,)), ("hands 4 gaps 0", (0,)), ("hands 1 gaps 0", (1, 0)),
                            ("hands 3 gaps 2 0 0", (1, 1)), ("hands " + "9" * 31 + " gaps 2", (0,)),
                            ("hands 1 gaps 2 1" + "0" * 29 + "1", (1, 1)), ("hands 2 gaps " + "1 " * 7 + "9" * 31, (1, 7))):
            check_refused(self, BadPlan, "place", place, read_plan, text=text)

    def test_no_string(self):
        for value in NO_INTEGERS + INTEGERS:
            if not isinstance(value, str):
                check_refused(self, BadText, "word", None, read_plan, text=value)

    def test_wrong_plans(self):
        for plan, place in WRONG_PLANS:
            check_refused(self, BadPlan, "place", place, plan_text, plan=plan)


class DayTexts(unittest.TestCase):
    def test_written_and_read_back(self):
        for day, text in DAY_TEXTS:
            check_result(self, text, day_text, plan=GREAT, day=day)
            check_result(self, day, read_day, plan=GREAT, text=text)
        for plan in PLANS:
            for day in all_days(plan):
                self.assertEqual(read_day(plan, day_text(plan, day)), day)
        check_result(self, "-", day_text, plan=(1, (1,)), day=())
        # Right or not.
        check_result(self, (), read_day, plan=(1, (1,)), text="-")

    def test_what_is_no_day(self):
        for plan in ((1, (1,)), (2, (2, 2, 2)), GREAT):
            known = {repr(day) for day in all_days(plan)}
            for value in NO_INTEGERS + INTEGERS + ((-1,), (len(plan[1]),), (1, 0), (0, 0), (0, 1, 2, 3), (0, 1, 1), [0], "0"):
                if repr(value) not in known:
                    check_refused(self, BadDay, "value", value, day_text, plan=plan, day=value)

    def test_each_form(self):
        found = set()
        for plan in ((1, (1,)), (1, (2, 4, 4)), (2, (2, 2, 2)), GREAT):
            for _, text in DAY_TEXTS:
                for other in list(otherwise_told(text, WORDS)) + list(WORDS):
                    found.add(self.check_read(plan, other))
            for signs in itertools.product("01+-9", repeat=3):
                found.add(self.check_read(plan, "".join(signs)))
        self.assertEqual(found, {"text", "day", "read"})

    def check_read(self, plan, text):
        fault = fault_in_day(text)
        if fault is not None:
            check_refused(self, BadText, "word", fault, read_day, plan=plan, text=text)
            return "text"
        day = () if text == "-" else tuple(int(part) for part in text.split("+"))
        if day not in all_days(plan):
            check_refused(self, BadDay, "value", day, read_day, plan=plan, text=text)
            return "day"
        check_result(self, day, read_day, plan=plan, text=text)
        return "read"

    def test_known_faults(self):
        for text, word in (("", 0), (" ", 0), ("0 ", 1), (" 0", 0), ("0 1", 1), ("0 x", 1), ("- -", 1), ("none", 0),
                           ("10", 0), ("00", 0), ("0+10", 0), ("0+", 0), ("+0", 0), ("0++1", 0), ("-+0", 0), ("0+-", 0),
                           ("--", 0), ("-0", 0), ("0\n", 0), ("0,1", 0), ("x", 0), ("0" * 20000, 0), ("0+" * 10000, 0)):
            check_refused(self, BadText, "word", word, read_day, plan=(1, (2, 4, 4)), text=text)

    def test_what_has_the_form_and_is_no_day(self):
        for text, day in (("3", (3,)), ("9", (9,)), ("0+1", (0, 1)), ("0+0", (0, 0)), ("1+0", (1, 0)),
                          ("0+1+2+3+4+5+6+7+8+9", tuple(range(10))), ("0" + "+0" * 9999, (0,) * 10000)):
            told = raised(self, BadDay, read_day, (1, (2, 4, 4)), text)
            self.assertEqual(told.value, day)

    def test_no_string(self):
        for value in NO_INTEGERS + INTEGERS:
            if not isinstance(value, str):
                check_refused(self, BadText, "word", None, read_day, plan=(1, (1,)), text=value)

    def test_wrong_plans_ahead_of_all_else(self):
        for plan, place in WRONG_PLANS:
            for value in (None, "", "x", "0", 0, (0,), (0, 0)):
                check_refused(self, BadPlan, "place", place, read_day, plan=plan, text=value)
                check_refused(self, BadPlan, "place", place, day_text, plan=plan, day=value)


class RowTexts(unittest.TestCase):
    def test_written_and_read_back(self):
        for plan, row, text, right in ROW_TEXTS:
            check_result(self, text, row_text, plan=plan, row=row)
            check_result(self, text, row_text, plan=plan, row=list(row))
            if right:
                check_result(self, row, read_row, plan=plan, text=text)
            else:
                raised(self, BadRow, read_row, plan, text)
        for plan, days in ROUNDS:
            for turns in range(3):
                self.assertEqual(read_row(plan, row_text(plan, days * turns)), days * turns)

    def test_what_is_no_row(self):
        for plan in ((1, (1,)), (2, (2, 2, 2)), GREAT):
            for value in NO_INTEGERS + INTEGERS:
                if not isinstance(value, (list, tuple)):
                    check_refused(self, BadRow, "place", None, row_text, plan=plan, row=value)
            for many in (1001, 1002, 5000):
                check_refused(self, BadRow, "place", None, row_text, plan=plan, row=((0,),) * many)
                check_refused(self, BadRow, "place", None, row_text, plan=plan, row=[None] * many)

    def test_the_first_thing_that_is_no_day(self):
        for plan in ((1, (1,)), (2, (2, 2, 2)), GREAT):
            known = {repr(day) for day in all_days(plan)}
            for value in NO_INTEGERS + INTEGERS + ((-1,), (len(plan[1]),), (1, 0), (0, 0), (0, 1, 2, 3), [0], "0"):
                if repr(value) not in known:
                    for row in ((value,), ((), value), [(0,), (), value, None], ((),) * 999 + (value,), [value, value]):
                        at = [repr(day) in known for day in row].index(False)
                        check_refused(self, BadRow, "place", at, row_text, plan=plan, row=row)

    def check_read(self, plan, text):
        fault = fault_in_row(text)
        if fault is not None:
            check_refused(self, BadText, "word", fault, read_row, plan=plan, text=text)
            return "text"
        words = [] if text == "none" else text.split(" ")
        row = tuple(() if word == "-" else tuple(int(part) for part in word.split("+")) for word in words)
        if len(row) > 1000:
            check_refused(self, BadRow, "place", None, read_row, plan=plan, text=text)
            return "row"
        standing = plan[1]
        for place, day in enumerate(row):
            standing = right_ways(plan, standing).get(day)
            if standing is None:
                check_refused(self, BadRow, "place", place, read_row, plan=plan, text=text)
                return "row"
        check_result(self, row, read_row, plan=plan, text=text)
        return "read"

    def test_each_form(self):
        found = set()
        for plan, _, text, _ in ROW_TEXTS[:8]:
            for other in list(otherwise_told(text, WORDS)) + list(WORDS):
                found.add(self.check_read(plan, other))
        self.assertEqual(found, {"text", "row", "read"})

    def test_known_faults(self):
        for text, word in (("", 0), (" ", 0), ("none ", 1), ("none none", 1), ("none 0", 1), ("none -", 1), ("0 none", 1),
                           (" none", 0), ("0 ", 1), (" 0", 0), ("0  1", 1), ("0 1 ", 2), ("0 1 x 9 x", 2), ("0 10", 1),
                           ("0 1\n", 1), ("0\n1", 0), ("None", 0), ("- 0+", 1), ("- - 0 +", 3), ("0 " * 5000, 5000)):
            check_refused(self, BadText, "word", word, read_row, plan=(1, (2, 4, 4)), text=text)

    def test_what_has_the_form_and_is_no_right_row(self):
        plan = (1, (2, 4, 4))
        for text, place in (("9", 0), ("0 0+1", 1), ("0 1 1", 2), ("0 - 0 1", 3), ("0 - 0 2", 3), ("1+0", 0), ("0 3", 1)):
            check_refused(self, BadRow, "place", place, read_row, plan=plan, text=text)
        for many in (1001, 5000):
            for word in ("0", "9", "-"):
                check_refused(self, BadRow, "place", None, read_row, plan=(1, (1,)), text=" ".join([word] * many))

    def test_no_string(self):
        for value in NO_INTEGERS + INTEGERS:
            if not isinstance(value, str):
                check_refused(self, BadText, "word", None, read_row, plan=(1, (1,)), text=value)

    def test_wrong_plans_ahead_of_all_else(self):
        for plan, place in WRONG_PLANS:
            for value in (None, "", "x", "none", "0", (), ((0,),), [None], LONG):
                check_refused(self, BadPlan, "place", place, read_row, plan=plan, text=value)
                check_refused(self, BadPlan, "place", place, row_text, plan=plan, row=value)
