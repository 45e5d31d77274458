import itertools
import unittest
from math import prod

from oftenenough.beside import are_alike, is_no_looser, parting_row
from oftenenough.errors import BadPlan, TooGreat
from tests.plain import Told, right_ways
from tests.values import GREATEST_GAP, LONG, PLANS, WRONG_PLANS, check_refused, check_result

SMALL_PLANS = tuple((hands, gaps) for hands in (1, 2, 3) for many, most in ((1, 4), (2, 9), (3, 8))
                    for gaps in itertools.product(range(1, 5), repeat=many) if prod(gaps) <= most)
LOST = ((1, (1, 1)), (1, (2, 3, 6)), (2, (1, 1, 1)), (1, (2, 2, 2)), (3, (1, 1, 1, 1)), (1, (1, 5000)), (1, (2, 3, 100)))
# Pairs with just 20,000 STANDINGS, multiplied; no ROW parts the first one, this ROW the second one.
JUST_ENOUGH = (
    ((1, (1,)), (1, (20000,)), ((),)), ((1, (100,)), (1, (200,)), ((),) * 100),
    ((1, (10, 10)), (2, (10, 20)), ((0, 1),)), ((2, (1, 20)), (3, (1, 1000)), ((0,),) * 20),
    ((3, (2, 2, 5, 5)), (3, (2, 4, 5, 5)), ((), (0,))), ((1, (4, 5, 5)), (1, (8, 5, 5)), ((), (), (), (1,))),
    ((2, (1, 1, 1, 1)), (2, (10, 10, 10, 20)), ((),)),
    ((3, (1,) * 7 + (2,)), (3, (2, 2, 2, 2, 5, 5, 5, 5)), ((0,),)),
)
TOO_MANY = (
    ((1, (1,)), (1, (20001,))), ((1, (20001,)), (1, (1,))), ((1, (59, 3)), (1, (113, 1))), ((3, (142,)), (1, (141,))),
    ((1, (GREATEST_GAP,)), (3, (1,))), ((3, (1,)), (1, (GREATEST_GAP,))), ((1, (9,) * 8), (1, (9,) * 8)),
    ((1, (1, 1)), (1, (GREATEST_GAP, 1))), ((2, (7, 11)), (2, (13, 20))),
)


def right_rows(plan, told, many):
    """All right ROWS of so many DAYS that last, in ascending order, each with its last STANDING."""
    rows = [((), plan[1])] if plan[1] in told.lasting else []
    for _ in range(many):
        rows = [(row + (day,), later) for row, standing in rows
                for day, later in sorted(told.ways[standing].items()) if later in told.lasting]
    return rows


def is_right_by(plan, row):
    standing = plan[1]
    for day in row:
        if day not in right_ways(plan, standing):
            return False
        standing = right_ways(plan, standing)[day]
    return True


def parts_them(told, one, other, row):
    """Whether a ROW parts the one from the other, by the words of the document."""
    return (is_right_by(one, row) and row_ends(one, row) in told.lasting and len(row) > 0
            and is_right_by(other, row[:-1]) and not is_right_by(other, row))


def row_ends(plan, row):
    standing = plan[1]
    for day in row:
        standing = right_ways(plan, standing)[day]
    return standing


def searched(one, other, most):
    """The least ROW of at most so many DAYS that parts the one from the other one, all of them being tried."""
    told = Told(one)
    for many in range(1, most + 1):
        for row, _ in right_rows(one, told, many):
            if parts_them(told, one, other, row):
                return row
    return None


def can_be_parted(one, other):
    """Whether some ROW of any length parts the one from the other one."""
    told, other_told = Told(one), Told(other)
    met = newest = {(one[1], other[1])} if one[1] in told.lasting else set()
    while newest:
        further = set()
        for standing, beside in newest:
            for day, later in told.ways[standing].items():
                if later in told.lasting:
                    if day not in other_told.ways[beside]:
                        return True
                    further.add((later, other_told.ways[beside][day]))
        newest = further - met
        met = met | newest
    return False


class Searched(unittest.TestCase):
    def test_all_pairs_of_small_plans(self):
        found = {}
        for one, other in itertools.product(SMALL_PLANS, repeat=2):
            if len(one[1]) == len(other[1]) and (len(one[1]) < 3 or sum(one[1] + other[1]) % 3 == 0):
                row = parting_row(one, other)
                self.assertEqual(is_no_looser(one, other), row is None, (one, other))
                if row is None:
                    self.assertFalse(can_be_parted(one, other), (one, other))
                elif len(row) <= 3:
                    self.assertEqual(row, searched(one, other, len(row)), (one, other))
                else:
                    self.assertTrue(parts_them(Told(one), one, other, row), (one, other))
                    self.assertIsNone(searched(one, other, 3), (one, other))
                length = None if row is None else len(row)
                found.setdefault((one[0] > other[0], length), (one, other))
        self.assertLessEqual({(more, length) for more in (True, False) for length in (None, 1, 2, 3)}, set(found))

    def test_longer_rows_are_the_least_too(self):
        for one, other in (((1, (2, 4, 4)), (1, (2, 4, 3))), ((1, (2, 5)), (1, (2, 4))), ((1, (5, 2)), (1, (4, 2))),
                           ((1, (3, 4, 5)), (1, (4, 3, 5))), ((1, (2, 4, 5)), (1, (2, 5, 4))),
                           ((2, (2, 3, 3)), (2, (3, 2, 3))), ((1, (3, 3, 3)), (1, (3, 3, 2)))):
            row = parting_row(one, other)
            check_result(self, searched(one, other, len(row)), parting_row, one=one, other=other)
            self.assertGreater(len(row), 1)


class Known(unittest.TestCase):
    def test_rows(self):
        for one, other, row in (
                ((1, (2, 3)), (1, (2, 2)), ((), (0,))), ((1, (2,)), (1, (1,)), ((),)), ((1, (1,)), (1, (2,)), None),
                ((2, (2, 2)), (1, (2, 2)), ((0, 1),)), ((2, (1, 1)), (1, (1, 1)), ((0, 1),)),
                ((2, (1, 3)), (1, (1, 3)), ((0, 1),)), ((3, (3,)), (1, (3,)), None), ((1, (5,)), (1, (4,)), ((),) * 4),
                ((1, (1000,)), (1, (3,)), ((),) * 3), ((1, (3,)), (1, (1000,)), None),
                ((3, (1, 1, 1)), (2, (1, 1, 1)), ((0, 1, 2),)), ((1, (2, 2)), (3, (2, 3)), None),
                ((1, (3, 3, 3)), (1, (3, 3, 2)), ((0,), (1,)))):
            check_result(self, row, parting_row, one=one, other=other)
            check_result(self, row is None, is_no_looser, one=one, other=other)

    def test_what_never_lasts_has_no_row(self):
        for one in LOST:
            for hands in (1, 2, 3):
                for gap in (1, 2, 3):
                    other = (hands, (gap,) * len(one[1]))
                    if prod(one[1] + other[1]) <= 20000:
                        check_result(self, None, parting_row, one=one, other=other)
                        check_result(self, True, is_no_looser, one=one, other=other)

    def test_what_lasts_beside_what_never_lasts(self):
        for other in LOST:
            one = (3, (1, 2, 2, 3)[:len(other[1])])
            row = parting_row(one, other)
            self.assertIsNotNone(row)
            check_result(self, False, is_no_looser, one=one, other=other)
            check_result(self, False, are_alike, one=other, other=one)

    def test_a_plan_beside_itself(self):
        for plan in SMALL_PLANS + LOST:
            if prod(plan[1]) < 142:
                check_result(self, None, parting_row, one=plan, other=plan)
                check_result(self, True, are_alike, one=plan, other=plan)

    def test_less_narrow_ones(self):
        for hands, gaps in SMALL_PLANS:
            wider = (min(hands + 1, 3), tuple(gap + number % 2 for number, gap in enumerate(gaps)))
            check_result(self, True, is_no_looser, one=(hands, gaps), other=wider)

    def test_alike_with_unlike_numbers(self):
        found = set()
        for one, other, told in (
                # More HANDS than things do nothing, nor does a GAP that cannot be used.
                ((1, (4,)), (3, (4,)), True), ((2, (2, 3)), (3, (2, 3)), True), ((1, (2, 3)), (1, (2, 4)), False),
                ((1, (1, 1)), (1, (1, 2)), True), ((1, (2, 3, 6)), (2, (1, 1, 1)), True), ((1, (2,)), (1, (3,)), False),
                ((1, (3, 2)), (1, (2, 3)), False), ((2, (1, 1)), (3, (1, 1)), True), ((1, (2, 2)), (2, (2, 2)), False),
                ((1, (2, 2, 4)), (1, (2, 3, 3)), True), ((1, (1, 1)), (2, (1, 1)), False)):
            for left, right in ((one, other), (other, one)):
                check_result(self, told, are_alike, one=left, other=right)
                both = (is_no_looser(left, right), is_no_looser(right, left))
                self.assertEqual(told, both == (True, True))
                found.add(both)
        self.assertEqual(found, {(True, True), (True, False), (False, True), (False, False)})


class Many(unittest.TestCase):
    def test_just_twenty_thousand_are_let_by(self):
        for one, other, row in JUST_ENOUGH:
            self.assertEqual(prod(one[1] + other[1]), 20000)
            self.assertIsNone(parting_row(one, other))
            self.assertEqual(parting_row(other, one), row)
            self.assertIs(is_no_looser(one, other), True)
            self.assertIs(is_no_looser(other, one), False)
            self.assertIs(are_alike(one, other), False)

    def test_a_long_row(self):
        check_result(self, ((),) * 140, parting_row, one=(1, (141,)), other=(1, (140,)))
        check_result(self, ((),) * 100, parting_row, one=(1, (200,)), other=(1, (100,)))

    def test_more_are_too_great(self):
        for one, other in TOO_MANY:
            self.assertGreater(prod(one[1] + other[1]), 20000)
            for call in (parting_row, is_no_looser, are_alike):
                check_refused(self, TooGreat, "most", 20000, call, one=one, other=other)


class Refused(unittest.TestCase):
    CALLS = (parting_row, is_no_looser, are_alike)

    def test_a_wrong_first_plan_ahead_of_all_else(self):
        for plan, place in WRONG_PLANS:
            for other in ((1, (2, 3)), (1, (GREATEST_GAP,)), None, (0, (1,))):
                for call in self.CALLS:
                    check_refused(self, BadPlan, "place", place, call, one=plan, other=other)

    def test_a_wrong_other_plan_ahead_of_too_great(self):
        for plan, place in WRONG_PLANS:
            for one in ((1, (2, 3)), (1, (GREATEST_GAP,))):
                for call in self.CALLS:
                    check_refused(self, BadPlan, "place", place, call, one=one, other=plan)

    def test_another_number_of_things_ahead_of_too_great(self):
        for one, other in itertools.product(PLANS + ((2, (GREATEST_GAP, 5)), (1, (LONG % GREATEST_GAP,) * 4)), repeat=2):
            if len(one[1]) != len(other[1]):
                for call in self.CALLS:
                    check_refused(self, BadPlan, "place", (1,), call, one=one, other=other)
