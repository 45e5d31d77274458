"""DAYS and ROWS: which are right, and which STANDING is behind them."""

from itertools import combinations

from oftenenough.errors import BadDay, BadRow, BadStanding
from oftenenough.plans import is_between, need_plan

MOST_DAYS = 1000


def is_standing(gaps, value):
    """Whether any value is a STANDING of things with these GAPS."""
    if not isinstance(value, tuple) or len(value) != len(gaps):
        return False
    return all([is_between(left, 1, gap) for left, gap in zip(value, gaps)])


def need_standing(gaps, standing):
    """The STANDING itself of things with these GAPS; BadStanding for any other value."""
    if not is_standing(gaps, standing):
        raise BadStanding(standing)
    return standing


def is_day(plan, value):
    """Whether any value is a DAY of a PLAN."""
    hands, gaps = plan
    if not isinstance(value, tuple) or len(value) > hands:
        return False
    least = 0
    for number in value:
        if not is_between(number, least, len(gaps) - 1):
            return False
        least = number + 1
    return True


def has_all_due(standing, day):
    """Whether all things that have 1 in the STANDING are in the DAY."""
    return all([left > 1 or number in day for number, left in enumerate(standing)])


def is_right_day(plan, standing, value):
    """Whether any value is a DAY that is right by the STANDING."""
    return is_day(plan, value) and has_all_due(standing, value)


def standing_behind(gaps, standing, day):
    """The STANDING behind a DAY that is right."""
    return tuple([gap if number in day else left - 1
                  for number, (gap, left) in enumerate(zip(gaps, standing))])


def walked(plan, things):
    """How many things, up to the first other one, are DAYS that are right, and the STANDING behind these."""
    _, gaps = plan
    standing = gaps
    for place, thing in enumerate(things):
        if not is_right_day(plan, standing, thing):
            return place, standing
        standing = standing_behind(gaps, standing, thing)
    return len(things), standing


def days_of(plan):
    """The ascending tuple of all DAYS."""
    hands, gaps = need_plan(plan)
    return tuple(sorted([day for many in range(hands + 1) for day in combinations(range(len(gaps)), many)]))


def right_days(plan, standing):
    """The ascending tuple of the DAYS that are right by a STANDING."""
    _, gaps = need_plan(plan)
    need_standing(gaps, standing)
    return tuple([day for day in days_of(plan) if has_all_due(standing, day)])


def behind(plan, standing, day):
    """The STANDING behind a DAY that is right by another STANDING."""
    _, gaps = need_plan(plan)
    need_standing(gaps, standing)
    if not is_right_day(plan, standing, day):
        raise BadDay(day)
    return standing_behind(gaps, standing, day)


def row_behind(plan, row):
    """The STANDING behind a right ROW."""
    need_plan(plan)
    if not isinstance(row, (list, tuple)) or len(row) > MOST_DAYS:
        raise BadRow(None)
    place, standing = walked(plan, row)
    if place < len(row):
        raise BadRow(place)
    return standing


def is_right(plan, value):
    """Whether any value is a right ROW."""
    need_plan(plan)
    if not isinstance(value, tuple):
        return False
    place, _ = walked(plan, value)
    return place == len(value)
