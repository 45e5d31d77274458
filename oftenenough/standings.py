"""STANDINGS: from which of them right DAYS can be told for ever, and how many from the others."""

from oftenenough.errors import TooGreat
from oftenenough.plans import how_many, need_plan
from oftenenough.rows import days_of, has_all_due, need_standing, right_days, standing_behind

MOST_STANDINGS = 1000


def need_few_standings(plan):
    """TooGreat for a PLAN with more STANDINGS than are looked at."""
    if how_many(plan) > MOST_STANDINGS:
        raise TooGreat(MOST_STANDINGS)


def standings_of(gaps):
    """The ascending list of all STANDINGS of things with these GAPS."""
    standings = [()]
    for gap in gaps:
        standings = [standing + (left,) for standing in standings for left in range(1, gap + 1)]
    return standings


def full_days(plan):
    """The DAYS on which as many things come as can come.

    A DAY to which things are added stays right, and the STANDING behind it becomes no less in any place; a ROUND
    stays a ROUND. So whether DAYS can be told for ever, how many of them at most, and how few a ROUND can have is
    the same by the full DAYS alone.
    """
    hands, gaps = plan
    most = min(hands, len(gaps))
    return [day for day in days_of(plan) if len(day) == most]


def due_in(standing):
    """The numbers of the things that have to come on the next DAY."""
    return tuple([number for number, left in enumerate(standing) if left == 1])


def steps_from(gaps, standing, days):
    """DAYS that are right by a STANDING, each with the STANDING behind it."""
    without_day = [left - 1 for left in standing]
    steps = []
    for day in days:
        later = list(without_day)
        for number in day:
            later[number] = gaps[number]
        steps.append((day, tuple(later)))
    return steps


def steps_of(gaps, days, standings):
    """For each of the STANDINGS those of the DAYS that are right by it, each with the STANDING behind it."""
    steps, right_by_due = {}, {}
    for standing in standings:
        due = due_in(standing)
        # Which DAYS are right hangs on what is due alone, and many STANDINGS have the same due.
        if due not in right_by_due:
            right_by_due[due] = [day for day in days if has_all_due(standing, day)]
        steps[standing] = steps_from(gaps, standing, right_by_due[due])
    return steps


def ways_of(plan):
    """For each STANDING those behind the full DAYS that are right by it."""
    _, gaps = plan
    steps = steps_of(gaps, full_days(plan), standings_of(gaps))
    return {standing: [later for _, later in steps[standing]] for standing in steps}


def ranks_by(ways):
    """For each STANDING that does not last, how many DAYS can be told from it at most."""
    sources = {standing: [] for standing in ways}
    for standing in ways:
        for later in ways[standing]:
            sources[later].append(standing)
    ways_left = {standing: len(ways[standing]) for standing in ways}
    ranks = {}
    rank, lost = 0, [standing for standing in ways if ways_left[standing] == 0]
    while lost:
        lost_next = []
        for standing in lost:
            ranks[standing] = rank
            for earlier in sources[standing]:
                ways_left[earlier] -= 1
                if ways_left[earlier] == 0:
                    lost_next.append(earlier)
        rank, lost = rank + 1, lost_next
    return ranks


def ranks_of(plan):
    """For each STANDING of a PLAN that does not last, how many DAYS can be told from it at most."""
    return ranks_by(ways_of(plan))


def lasting_ways(ways, ranks):
    """For each STANDING without a RANK those without one behind it."""
    return {standing: [later for later in ways[standing] if later not in ranks]
            for standing in ways if standing not in ranks}


def lasting_steps(plan):
    """For each STANDING that lasts, ascending, its right DAYS behind which one lasts, ascending, each with that one."""
    _, gaps = plan
    ranks = ranks_of(plan)
    lasting = [standing for standing in standings_of(gaps) if standing not in ranks]
    steps = steps_of(gaps, days_of(plan), lasting)
    return {standing: [(day, later) for day, later in steps[standing] if later not in ranks] for standing in steps}


def does_last(plan):
    """Whether the PLAN lasts."""
    _, gaps = need_plan(plan)
    need_few_standings(plan)
    return gaps not in ranks_of(plan)


def lasts(plan, standing):
    """Whether a STANDING of the PLAN lasts."""
    _, gaps = need_plan(plan)
    need_standing(gaps, standing)
    need_few_standings(plan)
    return standing not in ranks_of(plan)


def ones_less(standing):
    """The STANDINGS that have 1 less in one place."""
    return [standing[:number] + (left - 1,) + standing[number + 1:]
            for number, left in enumerate(standing) if left > 1]


def least_standings(plan):
    """The ascending tuple of the STANDINGS that last and have no other one that lasts at most them."""
    _, gaps = need_plan(plan)
    need_few_standings(plan)
    ranks = ranks_of(plan)
    # Whatever is at most a STANDING that does not last does not last either, so 1 less is little enough.
    return tuple([standing for standing in standings_of(gaps)
                  if standing not in ranks and all([less in ranks for less in ones_less(standing)])])


def lasting_days(plan, standing):
    """The ascending tuple of the right DAYS behind which the STANDING lasts."""
    _, gaps = need_plan(plan)
    need_standing(gaps, standing)
    need_few_standings(plan)
    ranks = ranks_of(plan)
    return tuple([day for day in right_days(plan, standing) if standing_behind(gaps, standing, day) not in ranks])


def longest(plan, standing):
    """How many right DAYS can be told at most from a STANDING that does not last, None of one that does."""
    _, gaps = need_plan(plan)
    need_standing(gaps, standing)
    need_few_standings(plan)
    return ranks_of(plan).get(standing)
