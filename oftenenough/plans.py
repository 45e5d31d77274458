"""PLANS: how many things can come on a day, and within how many days each of them must."""

from math import gcd

from oftenenough.errors import BadNumber, BadPlan

MOST_HANDS = 3
MOST_THINGS = 8
MOST_GAP = 10 ** 30


def is_whole(value):
    """Whether any value is an integer."""
    # Python counts True and False among the integers, the document does not.
    return isinstance(value, int) and not isinstance(value, bool)


def is_between(value, low, high):
    """Whether any value is an integer from low to high."""
    return is_whole(value) and low <= value <= high


def is_gap(value):
    """Whether any value is a GAP."""
    return is_between(value, 1, MOST_GAP)


def need_plan(thing):
    """The PLAN itself; BadPlan with the place where any other value is wrong."""
    if not isinstance(thing, tuple) or len(thing) != 2:
        raise BadPlan(())
    hands, gaps = thing
    if not is_between(hands, 1, MOST_HANDS):
        raise BadPlan((0,))
    if not isinstance(gaps, tuple) or not is_between(len(gaps), 1, MOST_THINGS):
        raise BadPlan((1,))
    for number, gap in enumerate(gaps):
        if not is_gap(gap):
            raise BadPlan((1, number))
    return thing


def need_number(gaps, number):
    """The number itself of a thing with one of these GAPS; BadNumber for any other value."""
    if not is_between(number, 0, len(gaps) - 1):
        raise BadNumber(number)
    return number


def share_of(plan):
    """The sum of 1 divided by each GAP, as a share."""
    _, gaps = need_plan(plan)
    above, below = 0, 1
    for gap in gaps:
        above, below = above * gap + below, below * gap
    common = gcd(above, below)
    return above // common, below // common


def how_many(plan):
    """How many STANDINGS the PLAN has."""
    _, gaps = need_plan(plan)
    many = 1
    for gap in gaps:
        many = many * gap
    return many


def with_gap(plan, number, gap):
    """The PLAN with another GAP of one thing."""
    hands, gaps = need_plan(plan)
    need_number(gaps, number)
    if not is_gap(gap):
        raise BadNumber(gap)
    return hands, gaps[:number] + (gap,) + gaps[number + 1:]


def without(plan, number):
    """The PLAN without one thing."""
    hands, gaps = need_plan(plan)
    need_number(gaps, number)
    # A PLAN has one thing at least, so its only one has to stay.
    if len(gaps) == 1:
        raise BadNumber(number)
    return hands, gaps[:number] + gaps[number + 1:]
