"""GAPS: how far they can be narrowed, how far they must be widened, and with how few HANDS they can be kept."""

from oftenenough.errors import Never
from oftenenough.loads import least_load
from oftenenough.plans import MOST_HANDS, need_number, need_plan, with_gap, without
from oftenenough.standings import does_last


def leave_room(plan):
    """Whether the PLAN lasts and has a ROUND with a DAY on which fewer than HANDS come."""
    hands, _ = plan
    # Without such a DAY each ROUND has just HANDS things on each DAY, and so has the least load.
    return does_last(plan) and least_load(plan) != (hands, 1)


def least_gap(plan, number):
    """The least GAP of a thing with which the PLAN lasts, None if there is none."""
    _, gaps = need_plan(plan)
    need_number(gaps, number)
    if len(gaps) == 1:
        return 1
    if not leave_room(without(plan, number)):
        return None
    gap = 1
    while not does_last(with_gap(plan, number, gap)):
        gap += 1
    return gap


def tight(plan):
    """The ascending tuple of the things whose GAP cannot be 1 less."""
    _, gaps = need_plan(plan)
    if not does_last(plan):
        raise Never()
    return tuple([number for number, gap in enumerate(gaps)
                  if gap == 1 or not does_last(with_gap(plan, number, gap - 1))])


def widening(plan):
    """The least number by which all GAPS have to be greater so that the PLAN lasts."""
    hands, gaps = need_plan(plan)
    more = 0
    while not does_last((hands, tuple([gap + more for gap in gaps]))):
        more += 1
    return more


def fewest_hands(plan):
    """The least HANDS with which the PLAN lasts, None if there are none."""
    _, gaps = need_plan(plan)
    for hands in range(1, MOST_HANDS + 1):
        if does_last((hands, gaps)):
            return hands
    return None
