"""PARTS: on which days, counted from 0, each thing comes, for GAPS of any size."""

from itertools import combinations
from math import gcd

from oftenenough.errors import BadNumber, BadParts
from oftenenough.plans import MOST_GAP, is_between, need_number, need_plan, share_of

MOST_DAY = MOST_GAP
MOST_ROW = 1000


def is_part(hands, gap, value):
    """Whether any value is a triple that PARTS can have for a thing with this GAP."""
    if not isinstance(value, tuple) or len(value) != 3:
        return False
    hand, every, start = value
    return is_between(hand, 0, hands - 1) and is_between(every, 1, gap) and is_between(start, 0, every - 1)


def do_meet(one, other):
    """Whether two things of PARTS come on the same day of one HAND."""
    hand, every, start = one
    other_hand, other_every, other_start = other
    return hand == other_hand and (start - other_start) % gcd(every, other_every) == 0


def are_parts(plan, value):
    """Whether any value is PARTS of the PLAN."""
    hands, gaps = need_plan(plan)
    if not isinstance(value, tuple) or len(value) != len(gaps):
        return False
    if not all([is_part(hands, gap, part) for gap, part in zip(gaps, value)]):
        return False
    return not any([do_meet(value[one], value[other]) for one, other in combinations(range(len(value)), 2)])


def need_parts(plan, parts):
    """The PARTS themselves; BadPlan, or BadParts for any other value."""
    if not are_parts(plan, parts):
        raise BadParts(parts)
    return parts


def folded_gap(gap, base):
    """The greatest number that base becomes by doubling and that is at most the GAP."""
    fold = base
    while 2 * fold <= gap:
        fold = 2 * fold
    return fold


def folded(plan, base):
    """The tuple of the folded GAPS."""
    _, gaps = need_plan(plan)
    if not is_between(base, 1, min(gaps)):
        raise BadNumber(base)
    return tuple([folded_gap(gap, base) for gap in gaps])


def folded_share(plan, base):
    """The sum of 1 divided by each folded GAP, as a share."""
    hands, _ = need_plan(plan)
    return share_of((hands, folded(plan, base)))


def halved(gap, most):
    """The first number that is at most another one when a GAP is halved again and again."""
    while gap > most:
        gap = gap // 2
    return gap


def is_no_greater(one, other):
    """Whether a share is no greater than another one."""
    return one[0] * other[1] <= other[0] * one[1]


def best_base(plan):
    """The base with the least FOLDED SHARE, the greatest of several.

    A base of which the double is still one folds every GAP as its double does, and a base that is 1 greater has a
    lesser FOLDED SHARE unless a GAP is doubled less often by it. So the best base is a GAP halved until it is a base.
    """
    _, gaps = need_plan(plan)
    least = min(gaps)
    best = 1
    for base in sorted([halved(gap, least) for gap in gaps]):
        if is_no_greater(folded_share(plan, base), folded_share(plan, best)):
            best = base
    return best


def parts_by(base, folds):
    """PARTS with these EVERYS, each of them base doubled so many times, in as few HANDS as can be.

    The lesser EVERYS come first, so whatever days are free can be halved until they are those of the next thing,
    and days that are new are taken only when none are free. So no more days are taken than the things need.
    """
    parts = [() for _ in folds]
    taken, free = 0, []
    for fold, number in sorted([(fold, number) for number, fold in enumerate(folds)]):
        if not free:
            free.append((taken // base, base, taken % base))
            taken += 1
        hand, every, start = free.pop()
        while every < fold:
            free.append((hand, 2 * every, start + every))
            every = 2 * every
        parts[number] = (hand, every, start)
    return tuple(parts)


def folded_parts(plan):
    """PARTS with the GAPS folded to the best base as EVERYS, None if these need more HANDS."""
    hands, _ = need_plan(plan)
    base = best_base(plan)
    if not is_no_greater(folded_share(plan, base), (hands, 1)):
        return None
    return parts_by(base, folded(plan, base))


def need_day_number(day):
    """The number of a day itself; BadNumber for any other value."""
    if not is_between(day, 0, MOST_DAY):
        raise BadNumber(day)
    return day


def come_on(parts, day):
    """The DAY of the things that come by PARTS on the day with a number."""
    return tuple([number for number, (_, every, start) in enumerate(parts) if day % every == start])


def day_by(plan, parts, day):
    """The DAY of the things that come by PARTS on the day with a number."""
    need_parts(plan, parts)
    return come_on(parts, need_day_number(day))


def next_by(plan, parts, number, day):
    """The least number of a day, from day on, on which a thing comes by PARTS."""
    _, gaps = need_plan(plan)
    need_parts(plan, parts)
    need_number(gaps, number)
    need_day_number(day)
    _, every, start = parts[number]
    return day + (start - day) % every


def row_by(plan, parts, many):
    """The ROW of the first so many DAYS by PARTS."""
    need_parts(plan, parts)
    if not is_between(many, 0, MOST_ROW):
        raise BadNumber(many)
    return tuple([come_on(parts, day) for day in range(many)])
