"""Two PLANS beside each other: which ROWS keep the one and not the other one."""

from oftenenough.errors import BadPlan, TooGreat
from oftenenough.plans import how_many, need_plan
from oftenenough.rows import days_of
from oftenenough.standings import lasting_steps, standings_of, steps_of

MOST_PAIRS = 20000


def need_two(one, other):
    """BadPlan for what are not two PLANS with as many things, TooGreat for too many STANDINGS."""
    _, gaps = need_plan(one)
    _, other_gaps = need_plan(other)
    if len(other_gaps) != len(gaps):
        raise BadPlan((1,))
    if how_many(one) * how_many(other) > MOST_PAIRS:
        raise TooGreat(MOST_PAIRS)


def right_steps(plan):
    """For each STANDING the STANDINGS behind its right DAYS, by DAY."""
    _, gaps = plan
    steps = steps_of(gaps, days_of(plan), standings_of(gaps))
    return {standing: dict(steps[standing]) for standing in steps}


def row_to(ahead, pair):
    """The ROW that led to a pair of STANDINGS."""
    days = []
    while ahead[pair] is not None:
        pair, day = ahead[pair]
        days.append(day)
    return tuple(days[::-1])


def parting_row(one, other):
    """A ROW that parts the one from the other one, with as few DAYS as can be, the least of several, or None."""
    need_two(one, other)
    steps = lasting_steps(one)
    other_steps = right_steps(other)
    first = (one[1], other[1])
    ahead = {first: None}
    # The pairs that are reached by just so many DAYS, in the order of the least ROWS that lead to them.
    newest = [first] if one[1] in steps else []
    while newest:
        reached = []
        for pair in newest:
            standing, other_standing = pair
            for day, later in steps[standing]:
                if day not in other_steps[other_standing]:
                    return row_to(ahead, pair) + (day,)
                pair_behind = (later, other_steps[other_standing][day])
                if pair_behind not in ahead:
                    ahead[pair_behind] = (pair, day)
                    reached.append(pair_behind)
        newest = reached
    return None


def is_no_looser(one, other):
    """Whether no ROW parts the one from the other one."""
    return parting_row(one, other) is None


def are_alike(one, other):
    """Whether each is no looser than the other one."""
    return is_no_looser(one, other) and is_no_looser(other, one)
