"""What the document says, written as plainly as it can be and without regard to time, to compare with."""

import itertools
from fractions import Fraction


def all_days(plan):
    """DAYS, told in another way: each choice of things, if they are not too many."""
    hands, gaps = plan
    choices = [tuple(number for number in range(len(gaps)) if choice >> number & 1)
               for choice in range(2 ** len(gaps))]
    return sorted(day for day in choices if len(day) <= hands)


def all_standings(plan):
    return itertools.product(*[range(1, gap + 1) for gap in plan[1]])


def is_at_most(one, other):
    return all(left <= right for left, right in zip(one, other))


def right_ways(plan, standing):
    """For each DAY that is right by a STANDING the STANDING behind it."""
    return {day: tuple(gap if number in day else left - 1
                       for number, (gap, left) in enumerate(zip(plan[1], standing)))
            for day in all_days(plan)
            if all(number in day for number, left in enumerate(standing) if left == 1)}


class Told:
    """Of each STANDING how many right DAYS can be told from it, found by telling one DAY more as long as it helps."""

    def __init__(self, plan):
        self.ways = {standing: right_ways(plan, standing) for standing in all_standings(plan)}
        self.most = {}
        tellable, many = set(self.ways), 0
        while True:
            further = {standing for standing in tellable if set(self.ways[standing].values()) & tellable}
            if further == tellable:
                break
            for standing in tellable - further:
                self.most[standing] = many
            tellable, many = further, many + 1
        self.lasting = tellable

    def longest(self, standing):
        return self.most.get(standing)

    def lasting_days(self, standing):
        return tuple(day for day, later in sorted(self.ways[standing].items()) if later in self.lasting)

    def least(self):
        return tuple(sorted(one for one in self.lasting
                            if not any(other != one and is_at_most(other, one) for other in self.lasting)))


def comes_often_enough(plan, row):
    """Whether in any GAP DAYS of a row, one behind another, each thing comes."""
    return all(any(number in day for day in row[start:start + gap])
               for number, gap in enumerate(plan[1]) for start in range(len(row) - gap + 1))


def goes_round(plan, days):
    """Whether in any GAP DAYS of these, repeated for ever, each thing comes."""
    return all(any(number in days[(start + turn) % len(days)] for turn in range(min(gap, len(days))))
               for number, gap in enumerate(plan[1]) for start in range(len(days)))


def is_round_plainly(plan, value):
    return (isinstance(value, tuple) and 1 <= len(value) <= 1000
            and all(repr(day) in [repr(each) for each in all_days(plan)] for day in value) and goes_round(plan, value))


def fewest_days(plan, most):
    """How many DAYS a ROUND has at least, tried one by one; None if it has more than most."""
    for many in range(1, most + 1):
        for days in itertools.product(all_days(plan), repeat=many):
            if goes_round(plan, days):
                return many
    return None


def are_lost(plan, ranks):
    """Whether what has the form of RANKS holds: behind each right DAY there is a lesser RANK to be at most of."""
    return all(any(lesser < rank and is_at_most(later, other) for other, lesser in ranks)
               for standing, rank in ranks for later in right_ways(plan, standing).values())


def fewest_things(told, start, most):
    """How few things can come in 1, 2, .. DAYS that lead from a STANDING back to it; None where none do."""
    fewest, back = {start: 0}, []
    for _ in range(most):
        further = {}
        for standing, many in fewest.items():
            for day, later in told.ways[standing].items():
                if later in told.lasting:
                    further[later] = min(further.get(later, many + len(day)), many + len(day))
        fewest = further
        back.append(fewest.get(start))
    return back


def least_mean(told):
    """The least number of things a DAY on any way from a STANDING back to it.

    A way that comes to a STANDING twice is two of them, one of which has no more things a DAY.
    """
    return min(Fraction(many, days) for start in told.lasting
               for days, many in enumerate(fewest_things(told, start, len(told.lasting)), 1) if many is not None)


def share_pair(fraction):
    return fraction.numerator, fraction.denominator
