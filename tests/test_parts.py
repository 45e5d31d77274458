import itertools
import unittest
from fractions import Fraction
from math import gcd, lcm

from oftenenough.errors import BadNumber, BadParts, BadPlan
from oftenenough.parts import (
    are_parts, best_base, day_by, folded, folded_parts, folded_share, next_by, row_by,
)
from oftenenough.rows import days_of, is_right
from tests.plain import comes_often_enough
from tests.values import (
    GREATEST_GAP, INTEGERS, LONG, NO_INTEGERS, PLANS, WRONG_PLANS, check_refused, check_result, raised,
)

SMALL_PLANS = tuple((hands, gaps) for hands in (1, 2, 3) for many in (1, 2, 3)
                    for gaps in itertools.product((1, 2, 3, 4, 5, 7, 9, 12), repeat=many))
# GAPS of thirty figures and of less, without any pattern.
LONG_GAPS = tuple(7 ** (30 + turn) * 1000003 ** turn // 5 ** turn % GREATEST_GAP + 1 for turn in range(24))
LONG_PLANS = (
    (1, (GREATEST_GAP,)), (3, (GREATEST_GAP,) * 8), (1, (GREATEST_GAP - 1, GREATEST_GAP)),
    (1, (GREATEST_GAP, 2 * 10 ** 29, 3)), (1, (GREATEST_GAP, 2 ** 99, 3 ** 60, 2)), (2, LONG_GAPS[:8]),
    (3, LONG_GAPS[8:16]), (1, LONG_GAPS[16:]), (1, (1, GREATEST_GAP)), (2, (1, 2, GREATEST_GAP, 5)),
)
# Plans and PARTS of each.
PARTS = (
    ((1, (1,)), ((0, 1, 0),)),
    ((3, (7,)), ((2, 5, 4),)),
    ((1, (2, 4, 4)), ((0, 2, 1), (0, 4, 0), (0, 4, 2))),
    ((1, (2, 5, 6)), ((0, 2, 0), (0, 4, 3), (0, 4, 1))),
    ((2, (1, 3, 3)), ((1, 1, 0), (0, 2, 1), (0, 2, 0))),
    ((2, (3, 3, 6, 7)), ((0, 3, 0), (1, 3, 0), (0, 6, 4), (1, 6, 2))),
    ((3, (2, 2, 3)), ((0, 2, 1), (1, 2, 1), (2, 3, 1))),
    ((1, (6, 10, 15)), ((0, 6, 0), (0, 10, 1), (0, 15, 2))),
    ((1, (GREATEST_GAP, 2)), ((0, GREATEST_GAP, 1), (0, 2, 0))),
    ((1, (GREATEST_GAP, GREATEST_GAP)), ((0, GREATEST_GAP, GREATEST_GAP - 1), (0, GREATEST_GAP, 0))),
    ((2, (GREATEST_GAP, GREATEST_GAP - 1)), ((0, GREATEST_GAP, 5), (1, GREATEST_GAP - 1, 5))),
)
DAY_NUMBERS = (0, 1, 2, 3, 4, 5, 11, 12, 1000, 10 ** 15 + 1, GREATEST_GAP - 1, GREATEST_GAP)
WRONG_DAY_NUMBERS = NO_INTEGERS + (-1, -2, GREATEST_GAP + 1, GREATEST_GAP + 2, LONG, -LONG)


def things_on(parts, day):
    """The things that come on a day, by HANDS: a list of pairs of a HAND and a thing."""
    return [(hand, number) for number, (hand, every, start) in enumerate(parts) if day % every == start]


def never_meet(parts):
    """Whether no two things of one HAND come on one day, by going through all days until all is as at first."""
    for day in range(lcm(*[every for _, every, _ in parts])):
        hands = [hand for hand, _ in things_on(parts, day)]
        if len(hands) != len(set(hands)):
            return False
    return True


def folded_plainly(gap, base):
    return max(base * 2 ** turn for turn in range(101) if base * 2 ** turn <= gap)


def share_plainly(plan, base):
    return sum(Fraction(1, folded_plainly(gap, base)) for gap in plan[1])


def best_plainly(plan):
    return min((share_plainly(plan, base), -base) for base in range(1, min(plan[1]) + 1))[1] * -1


def near_bases(plan):
    """Bases of a plan with long GAPS: the first and the last ones, each GAP halved so often, and those beside."""
    least = min(plan[1])
    bases = {1, 2, 3, least, least - 1, least // 2, least // 2 + 1, least // 3, (2 * least) // 3}
    for gap in plan[1]:
        for turn in range(101):
            bases |= {gap // 2 ** turn + beside for beside in (-1, 0, 1)}
    return sorted(base for base in bases if 1 <= base <= least)


def wrong_parts(plan, parts):
    """Values that are no PARTS of the plan: one thing otherwise at each place, and values of every kind."""
    hands, gaps = plan
    wrong = [value for value in NO_INTEGERS + INTEGERS]
    wrong += [list(parts), parts[1:], parts + parts[:1], (parts,), parts + (None,), dict(enumerate(parts))]
    for number, (hand, every, start) in enumerate(parts):
        others = [(value, every, start) for value in NO_INTEGERS + (-1, hands, LONG, -LONG)]
        others += [(hand, value, start) for value in NO_INTEGERS + (0, -1, gaps[number] + 1, LONG, -LONG)]
        others += [(hand, every, value) for value in NO_INTEGERS + (-1, every, every + 1, LONG, -LONG)]
        others += [[hand, every, start], (hand, every), (hand, every, start, 0), (), {0: hand, 1: every, 2: start}]
        others += list(NO_INTEGERS + INTEGERS)
        wrong += [parts[:number] + (other,) + parts[number + 1:] for other in others]
    return wrong


class AreParts(unittest.TestCase):
    def test_known_parts(self):
        for plan, parts in PARTS:
            check_result(self, True, are_parts, plan=plan, value=parts)

    def test_all_of_small_plans_against_all_days(self):
        found = set()
        for plan in ((1, (3, 4)), (2, (2, 3)), (1, (2, 2, 4)), (2, (2, 1, 2)), (3, (2, 2)), (1, (6, 4))):
            hands, gaps = plan
            triples = [[(hand, every, start) for hand in range(hands) for every in range(1, gap + 1)
                        for start in range(every)] for gap in gaps]
            for parts in itertools.product(*triples):
                self.assertIs(are_parts(plan, parts), never_meet(parts), (plan, parts))
                found.add((hands, never_meet(parts)))
        self.assertEqual(found, {(hands, answer) for hands in (1, 2, 3) for answer in (True, False)})

    def test_things_that_meet_and_things_that_do_not(self):
        plan = (2, (12, 18))
        for start in range(12):
            for other in range(18):
                check = start % 6 != other % 6
                self.assertIs(are_parts(plan, ((1, 12, start), (1, 18, other))), check)
                self.assertIs(are_parts(plan, ((0, 12, start), (1, 18, other))), True)

    def test_great_distances(self):
        one, other = GREATEST_GAP, GREATEST_GAP - 4
        self.assertEqual(gcd(one, other), 4)
        for start in (0, 1, 2, 3, one - 1, one - 2, one // 2):
            for beside in range(8):
                parts = ((0, one, start), (0, other, other - 1 - beside))
                check_result(self, start % 4 != (other - 1 - beside) % 4, are_parts, plan=(1, (one, one)), value=parts)
        # These two distances have no common divisor, so they meet once, however late.
        parts = ((0, one, 0), (0, one - 1, 1))
        check_result(self, False, are_parts, plan=(1, (one, one)), value=parts)
        check_result(self, True, are_parts, plan=(1, (one, one)), value=((0, one, 0), (0, one, 1)))
        check_result(self, False, are_parts, plan=(1, (one, one)), value=((0, one, 1), (0, one, 1)))
        check_result(self, True, are_parts, plan=(2, (one, one)), value=((0, one, 1), (1, one, 1)))
        # Only the last two of eight meet.
        eight = tuple((0, one, turn) for turn in range(7))
        check_result(self, True, are_parts, plan=(1, (one,) * 8), value=eight + ((0, one, 7),))
        check_result(self, False, are_parts, plan=(1, (one,) * 8), value=eight + ((0, one, 6),))

    def test_values_of_every_kind(self):
        for plan, parts in PARTS:
            for value in wrong_parts(plan, parts):
                check_result(self, False, are_parts, plan=plan, value=value)

    def test_edges(self):
        plan = (2, (3, GREATEST_GAP))
        other = (0, GREATEST_GAP, 0)
        for hand, every, start, answer in (
                (1, 1, 0, True), (1, 3, 2, True), (1, 3, 3, False), (1, 4, 0, False), (1, 0, 0, False),
                (2, 3, 0, False), (-1, 3, 0, False), (0, 1, 0, False), (1, 3, -1, False), (1, 2, 1, True)):
            check_result(self, answer, are_parts, plan=plan, value=((hand, every, start), other))

    def test_fact_the_row_by_parts_is_right(self):
        for plan, parts in PARTS:
            self.assertTrue(is_right(plan, row_by(plan, parts, 500)))


class Folded(unittest.TestCase):
    def test_small_gaps_by_every_base(self):
        for plan in SMALL_PLANS[::3]:
            for base in range(1, min(plan[1]) + 1):
                expected = tuple(folded_plainly(gap, base) for gap in plan[1])
                check_result(self, expected, folded, plan=plan, base=base)
                total = share_plainly(plan, base)
                check_result(self, (total.numerator, total.denominator), folded_share, plan=plan, base=base)

    def test_gaps_of_thirty_figures(self):
        for plan in LONG_PLANS:
            for base in near_bases(plan)[::7] + [min(plan[1])]:
                self.assertEqual(folded(plan, base), tuple(folded_plainly(gap, base) for gap in plan[1]))
                total = share_plainly(plan, base)
                self.assertEqual(folded_share(plan, base), (total.numerator, total.denominator))

    def test_known_ones(self):
        check_result(self, (4, 8, 8), folded, plan=(1, (7, 8, 15)), base=1)
        check_result(self, (7, 7, 14), folded, plan=(1, (7, 8, 15)), base=7)
        check_result(self, (6, 6, 12), folded, plan=(1, (7, 8, 15)), base=3)
        check_result(self, (1, 2), folded_share, plan=(1, (7, 8, 15)), base=1)
        check_result(self, (5, 14), folded_share, plan=(3, (7, 8, 15)), base=7)
        check_result(self, (2 ** 99,), folded, plan=(1, (GREATEST_GAP,)), base=1)
        check_result(self, (GREATEST_GAP,), folded, plan=(1, (GREATEST_GAP,)), base=GREATEST_GAP)
        check_result(self, (GREATEST_GAP,), folded, plan=(1, (GREATEST_GAP,)), base=5 ** 30)

    def test_what_is_no_base_is_refused(self):
        for plan in PLANS + LONG_PLANS:
            for base in NO_INTEGERS + (0, -1, min(plan[1]) + 1, GREATEST_GAP + 1, LONG, -LONG):
                check_refused(self, BadNumber, "value", base, folded, plan=plan, base=base)
                check_refused(self, BadNumber, "value", base, folded_share, plan=plan, base=base)
        value = [1]
        self.assertIs(raised(self, BadNumber, folded, (1, (2, 3)), value).value, value)


class BestBase(unittest.TestCase):
    def test_small_gaps_against_all_bases(self):
        for plan in SMALL_PLANS + tuple((1, gaps) for gaps in itertools.combinations(range(20, 90, 6), 3)):
            self.assertEqual(best_base(plan), best_plainly(plan), plan)

    def test_more_gaps_against_all_bases(self):
        for turn in range(60):
            gaps = tuple(40 + gap % (5 + 9 * turn) for gap in LONG_GAPS[turn % 16:turn % 16 + 1 + turn % 8])
            check_result(self, best_plainly((1, gaps)), best_base, plan=(1, gaps))

    def test_gaps_of_thirty_figures_against_many_bases(self):
        for plan in LONG_PLANS:
            best = best_base(plan)
            expected = min((share_plainly(plan, base), -base) for base in near_bases(plan) + [best])
            self.assertEqual((share_plainly(plan, best), -best), expected, plan)

    def test_known_ones(self):
        check_result(self, 3, best_base, plan=(1, (GREATEST_GAP, 2 * 10 ** 29, 3)))
        check_result(self, 1, best_base, plan=(1, (1, 7)))
        check_result(self, GREATEST_GAP, best_base, plan=(2, (GREATEST_GAP,) * 8))
        check_result(self, 2 ** 99, best_base, plan=(1, (2 ** 99,)))
        check_result(self, 5, best_base, plan=(1, (7, 10, 20)))

    def test_the_greatest_of_several(self):
        for gaps, best, other in (((4, 6), 4, 3), ((6, 20), 6, 5), ((3, 4, 4), 3, 2), ((12, 19), 12, 9),
                                  ((8, 8), 8, 1)):
            self.assertEqual(folded_share((1, gaps), best), folded_share((1, gaps), other))
            for hands in (1, 2, 3):
                check_result(self, best, best_base, plan=(hands, gaps))
                check_result(self, best, best_base, plan=(hands, gaps[::-1]))


class FoldedParts(unittest.TestCase):
    def check_parts(self, plan):
        told = folded_parts(plan)
        self.assertEqual(repr(folded_parts(plan=plan)), repr(told))
        base = best_base(plan)
        if share_plainly(plan, base) > plan[0]:
            self.assertIsNone(told, plan)
        else:
            self.assertIs(are_parts(plan, told), True, plan)
            self.assertEqual(tuple(every for _, every, _ in told), folded(plan, base))
            for one, other in itertools.combinations(told, 2):
                self.assertTrue(one[0] != other[0] or (one[2] - other[2]) % gcd(one[1], other[1]), plan)
        return told

    def test_small_plans(self):
        found = set()
        for plan in SMALL_PLANS:
            told = self.check_parts(plan)
            found.add((plan[0], told is None))
            if told is not None:
                self.assertTrue(never_meet(told), plan)
                self.assertTrue(comes_often_enough(plan, row_by(plan, told, 40)), plan)
        self.assertLessEqual({(1, True), (1, False), (2, True), (2, False), (3, False)}, found)

    def test_plans_that_need_all_days(self):
        for plan in ((1, (2, 4, 4)), (1, (8, 8, 2, 4)), (1, (3, 3, 3)), (1, (3, 6, 3, 6)), (2, (1, 2, 2)), (1, (1,)),
                     (1, (7,) * 7), (2, (5,) * 8), (3, (2, 2, 2, 4, 4, 2, 2)), (3, (1, 1, 2, 4, 8, 8)), (1, (8,) * 8),
                     (2, (4,) * 8), (3, (3, 3, 3, 3, 3, 3, 3, 3)), (1, (5, 10, 10, 5, 20, 20, 10, 5))):
            self.assertIsNotNone(self.check_parts(plan), plan)
            self.assertTrue(never_meet(folded_parts(plan)), plan)

    def test_one_hand_less_is_too_few(self):
        for plan in ((1, (2, 4, 4, 100)), (1, (1, 1)), (2, (1, 2, 2, 50)), (3, (1, 1, 1, 1)), (1, (2, 3, 6)),
                     (1, (8,) * 7 + (7,)), (2, (1, 1, GREATEST_GAP)), (1, (2, 2, GREATEST_GAP)), (3, (2,) * 7)):
            check_result(self, None, folded_parts, plan=plan)

    def test_gaps_of_thirty_figures(self):
        found = [self.check_parts(plan) for plan in LONG_PLANS]
        self.assertIn(None, found)
        self.assertGreater(len([told for told in found if told is not None]), 7)
        for hands in (1, 2, 3):
            for start in range(17):
                for cut in (1, 3, 10 ** 28):
                    gaps = tuple(gap // cut % 10 ** (start + 2) + 8 for gap in LONG_GAPS[start:start + 8])
                    self.check_parts((hands, gaps))

    def test_each_least_gap_takes_a_day_of_its_own(self):
        told = self.check_parts((1, (GREATEST_GAP,) * 8))
        self.assertEqual(len(set(told)), 8)
        self.assertEqual({every for _, every, _ in told}, {GREATEST_GAP})


class ByParts(unittest.TestCase):
    def test_the_things_of_a_day(self):
        for plan, parts in PARTS + tuple((plan, folded_parts(plan)) for plan in LONG_PLANS if folded_parts(plan)):
            for day in DAY_NUMBERS:
                expected = tuple(number for _, number in things_on(parts, day))
                check_result(self, expected, day_by, plan=plan, parts=parts, day=day)
                self.assertIn(expected, days_of(plan))

    def test_known_days(self):
        plan, parts = (1, (2, 4, 4)), ((0, 2, 1), (0, 4, 0), (0, 4, 2))
        check_result(self, (1,), day_by, plan=plan, parts=parts, day=0)
        check_result(self, (0,), day_by, plan=plan, parts=parts, day=1)
        check_result(self, (2,), day_by, plan=plan, parts=parts, day=2)
        check_result(self, (1,), day_by, plan=plan, parts=parts, day=GREATEST_GAP)
        check_result(self, (0,), day_by, plan=plan, parts=parts, day=GREATEST_GAP - 1)
        check_result(self, (), day_by, plan=(1, (3,)), parts=((0, 3, 0),), day=GREATEST_GAP)
        check_result(self, (0,), day_by, plan=(1, (3,)), parts=((0, 3, 1),), day=GREATEST_GAP)
        plan, parts = (3, (2, 2, 3)), ((2, 2, 0), (0, 2, 0), (1, 3, 1))
        check_result(self, (0, 1, 2), day_by, plan=plan, parts=parts, day=4)
        check_result(self, (0, 1), day_by, plan=plan, parts=parts, day=0)
        check_result(self, (2,), day_by, plan=plan, parts=parts, day=1)
        check_result(self, (), day_by, plan=plan, parts=parts, day=3)

    def test_example_of_the_document(self):
        plan = (1, (10 ** 30, 2 * 10 ** 29, 3))
        self.assertEqual(best_base(plan), 3)
        self.assertIn(day_by(plan, folded_parts(plan), 10 ** 30), ((), (0,), (1,), (2,)))

    def test_the_next_day_of_a_thing(self):
        for plan, parts in PARTS:
            for number, (_, every, start) in enumerate(parts):
                for day in DAY_NUMBERS + (every - 1, start, min(start + 1, GREATEST_GAP)):
                    told = next_by(plan, parts, number, day)
                    check_result(self, told, next_by, plan=plan, parts=parts, number=number, day=day)
                    self.assertEqual(told % every, start)
                    self.assertTrue(day <= told < day + every, (plan, number, day))

    def test_known_next_days(self):
        plan, parts = (1, (2, 4, 4)), ((0, 2, 1), (0, 4, 0), (0, 4, 2))
        for number, days in enumerate(((1, 1, 3, 3, 5, 5), (0, 4, 4, 4, 4, 8), (2, 2, 2, 6, 6, 6))):
            for day, expected in enumerate(days):
                check_result(self, expected, next_by, plan=plan, parts=parts, number=number, day=day)
        check_result(self, GREATEST_GAP + 1, next_by, plan=plan, parts=parts, number=0, day=GREATEST_GAP)
        check_result(self, GREATEST_GAP, next_by, plan=plan, parts=parts, number=1, day=GREATEST_GAP)
        check_result(self, GREATEST_GAP + 2, next_by, plan=plan, parts=parts, number=2, day=GREATEST_GAP)
        far = (1, (GREATEST_GAP,))
        check_result(self, 2 * GREATEST_GAP - 1, next_by, plan=far, parts=((0, GREATEST_GAP, GREATEST_GAP - 1),),
                     number=0, day=GREATEST_GAP)
        check_result(self, GREATEST_GAP - 1, next_by, plan=far, parts=((0, GREATEST_GAP, GREATEST_GAP - 1),),
                     number=0, day=0)

    def test_the_row_of_the_first_days(self):
        for plan, parts in PARTS:
            for many in (0, 1, 2, 7, 12):
                expected = tuple(tuple(number for _, number in things_on(parts, day)) for day in range(many))
                check_result(self, expected, row_by, plan=plan, parts=parts, many=many)
            told = row_by(plan, parts, 1000)
            self.assertEqual(told, tuple(day_by(plan, parts, day) for day in range(1000)))

    def test_known_row(self):
        check_result(self, ((1,), (0,), (2,), (0,), (1,)), row_by, plan=(1, (2, 4, 4)),
                     parts=((0, 2, 1), (0, 4, 0), (0, 4, 2)), many=5)


class Refused(unittest.TestCase):
    def test_wrong_plans_ahead_of_all_else(self):
        for plan, place in WRONG_PLANS:
            check_refused(self, BadPlan, "place", place, best_base, plan=plan)
            check_refused(self, BadPlan, "place", place, folded_parts, plan=plan)
            for other in (0, 1, None, ((0, 1, 0),)):
                check_refused(self, BadPlan, "place", place, are_parts, plan=plan, value=other)
                check_refused(self, BadPlan, "place", place, folded, plan=plan, base=other)
                check_refused(self, BadPlan, "place", place, folded_share, plan=plan, base=other)
                check_refused(self, BadPlan, "place", place, day_by, plan=plan, parts=other, day=other)
                check_refused(self, BadPlan, "place", place, next_by, plan=plan, parts=other, number=other, day=other)
                check_refused(self, BadPlan, "place", place, row_by, plan=plan, parts=other, many=other)

    def test_wrong_parts_ahead_of_numbers(self):
        for plan, parts in PARTS:
            for wrong in wrong_parts(plan, parts):
                check_refused(self, BadParts, "value", wrong, day_by, plan=plan, parts=wrong, day=0)
                check_refused(self, BadParts, "value", wrong, next_by, plan=plan, parts=wrong, number=0, day=0)
                check_refused(self, BadParts, "value", wrong, row_by, plan=plan, parts=wrong, many=0)
            for bad in (None, -1, GREATEST_GAP + 1):
                check_refused(self, BadParts, "value", (), day_by, plan=plan, parts=(), day=bad)
                check_refused(self, BadParts, "value", (), next_by, plan=plan, parts=(), number=bad, day=bad)
                check_refused(self, BadParts, "value", (), row_by, plan=plan, parts=(), many=bad)

    def test_parts_that_meet(self):
        plan, parts = (2, (4, 6)), ((1, 4, 1), (1, 6, 3))
        check_refused(self, BadParts, "value", parts, day_by, plan=plan, parts=parts, day=0)
        check_refused(self, BadParts, "value", parts, next_by, plan=plan, parts=parts, number=0, day=0)
        check_refused(self, BadParts, "value", parts, row_by, plan=plan, parts=parts, many=0)

    def test_a_wrong_number_of_a_thing_ahead_of_the_day(self):
        for plan, parts in PARTS:
            many = len(parts)
            for number in NO_INTEGERS + (-1, many, many + 1, GREATEST_GAP, LONG, -LONG):
                for day in (0, -1, None):
                    check_refused(self, BadNumber, "value", number, next_by,
                                  plan=plan, parts=parts, number=number, day=day)

    def test_a_wrong_number_of_a_day(self):
        for plan, parts in PARTS:
            for day in WRONG_DAY_NUMBERS:
                check_refused(self, BadNumber, "value", day, day_by, plan=plan, parts=parts, day=day)
                check_refused(self, BadNumber, "value", day, next_by, plan=plan, parts=parts, number=0, day=day)

    def test_a_wrong_number_of_days(self):
        for plan, parts in PARTS:
            for many in NO_INTEGERS + (-1, 1001, 1002, GREATEST_GAP, LONG, -LONG):
                check_refused(self, BadNumber, "value", many, row_by, plan=plan, parts=parts, many=many)

    def test_the_very_value_is_told(self):
        value = [1]
        plan, parts = (1, (2,)), ((0, 2, 0),)
        for call, arguments in ((day_by, (value, 0)), (next_by, (value, 0, 0)), (row_by, (value, 0))):
            self.assertIs(raised(self, BadParts, call, plan, *arguments).value, value)
        for call, arguments in ((day_by, (parts, value)), (next_by, (parts, value, 0)), (next_by, (parts, 0, value)),
                                (row_by, (parts, value))):
            self.assertIs(raised(self, BadNumber, call, plan, *arguments).value, value)
