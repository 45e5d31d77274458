"""Loads: how many things come in a ROUND, divided by its DAYS, and how few of them can."""

from math import gcd

from oftenenough.errors import BadPaper, BadRow, Never
from oftenenough.papers import day_ahead, is_round
from oftenenough.plans import is_whole, need_plan
from oftenenough.rows import is_standing
from oftenenough.standings import lasting_steps, need_few_standings


def load_by(counts):
    """The load of DAYS, so many things coming on each of them."""
    many, days = sum(counts), len(counts)
    common = gcd(many, days)
    return many // common, days // common


def load_of(days):
    """The load of the DAYS of a ROUND."""
    return load_by([len(day) for day in days])


def load(plan, value):
    """The load of a ROUND."""
    if not is_round(plan, value):
        raise BadRow(None)
    return load_of(value)


def in_turn(gaps, steps):
    """The STANDINGS that last in an order in which their HEIGHTS are soon found, one by the other.

    The thing with the greatest GAP comes least often. As long as it does not come, each DAY leads to a STANDING that
    is ahead in this order. (Of the others the lesser GAPS go first: by trial this takes the fewest turns.)
    """
    numbers = [number for _, number in sorted([(gap, number) for number, gap in enumerate(gaps)])]
    turns = [([standing[number] for number in numbers[-1:] + numbers], standing) for standing in steps]
    return [standing for _, standing in sorted(turns)]


def ways_by_number(standings, steps):
    """For each of the STANDINGS, for each of its DAYS, how many things come and the number of the STANDING behind."""
    numbers = {standing: number for number, standing in enumerate(standings)}
    return [[(len(day), numbers[later]) for day, later in steps[standing]] for standing in standings]


def ring_by(chosen):
    """A ring on which the chosen ways lead, one for each number or None, as the list of its ways; None without one."""
    starts = [None for _ in chosen]
    for start in range(len(chosen)):
        here = start
        while chosen[here] is not None and starts[here] is None:
            starts[here] = start
            _, here = chosen[here]
        # What was passed from an earlier start leads on no ring.
        if starts[here] == start:
            ring = [chosen[here]]
            while ring[-1][1] != here:
                ring.append(chosen[ring[-1][1]])
            return ring
    return None


def load_on(ring):
    """The load of the DAYS on a ring."""
    return load_by([many for many, _ in ring])


def lower(ways, heights, chosen, least):
    """Lowers each HEIGHT to what its ways allow, chooses such a way, and tells whether there was one to lower."""
    above, below = least
    lowered = False
    for here, each in enumerate(ways):
        allowed = [heights[later] + below * many - above for many, later in each]
        height = min(allowed)
        if height < heights[here]:
            heights[here] = height
            chosen[here] = each[allowed.index(height)]
            lowered = True
    return lowered


def lightest_ring(ways):
    """A ring with the least load, and the HEIGHTS by which no other one has a lesser load.

    As long as there is a ring with a lesser load than the last one that was found, the HEIGHTS can be lowered for
    ever, and some time the ways that were chosen for this lead on such a ring. When none can be lowered, they hold.
    """
    found = ring_by([min(each) for each in ways])
    while found is not None:
        ring, found = found, None
        heights, chosen = [0 for _ in ways], [None for _ in ways]
        while found is None and lower(ways, heights, chosen, load_on(ring)):
            found = ring_by(chosen)
    return ring, heights


def need_steps(plan):
    """The steps between the STANDINGS that last, of a PLAN that lasts; TooGreat, Never."""
    _, gaps = need_plan(plan)
    need_few_standings(plan)
    steps = lasting_steps(plan)
    if gaps not in steps:
        raise Never()
    return steps


def least_load(plan):
    """The least load of all ROUNDS of any length."""
    steps = need_steps(plan)
    ring, _ = lightest_ring(ways_by_number(in_turn(plan[1], steps), steps))
    return load_on(ring)


def load_paper(plan):
    """A PAPER on the least load."""
    steps = need_steps(plan)
    _, gaps = plan
    standings = in_turn(gaps, steps)
    ring, heights = lightest_ring(ways_by_number(standings, steps))
    days = tuple([day_ahead(gaps, standings[later]) for _, later in ring])
    return days, load_on(ring), tuple(sorted(zip(standings, heights)))


def is_load(value, days):
    """Whether any value is the load of a ROUND."""
    return isinstance(value, tuple) and all([is_whole(part) for part in value]) and value == load_of(days)


def is_height_pair(gaps, value):
    """Whether any value is a pair of a STANDING and an integer."""
    if not isinstance(value, tuple) or len(value) != 2:
        return False
    standing, height = value
    return is_standing(gaps, standing) and is_whole(height)


def are_heights(plan, least, value):
    """Whether any value is HEIGHTS by which no ROUND has a load less than this one."""
    _, gaps = plan
    if not isinstance(value, tuple) or not all([is_height_pair(gaps, pair) for pair in value]):
        return False
    steps = lasting_steps(plan)
    if [standing for standing, _ in value] != list(steps):
        return False
    above, below = least
    heights = dict(value)
    return all([heights[later] + below * len(day) >= heights[standing] + above
                for standing in steps for day, later in steps[standing]])


def check_load(plan, paper):
    """The LEAST of a PAPER that holds on the least load."""
    need_few_standings(plan)
    if not isinstance(paper, tuple) or len(paper) != 3:
        raise BadPaper("form")
    days, least, heights = paper
    if not is_round(plan, days) or not is_load(least, days):
        raise BadPaper("round")
    if not are_heights(plan, least, heights):
        raise BadPaper("heights")
    return least
