"""PAPERS on whether a PLAN lasts: a ROUND that anybody can go along, or RANKS of STANDINGS that are lost."""

from oftenenough.errors import BadPaper, Never
from oftenenough.plans import is_whole, need_plan
from oftenenough.rows import MOST_DAYS, has_all_due, is_day, is_standing
from oftenenough.standings import full_days, lasting_ways, need_few_standings, ranks_by, ways_of


def comes_round(days, number, gap):
    """Whether a thing comes on one of these DAYS and, they being repeated, within its GAP behind each such DAY."""
    places = [place for place, day in enumerate(days) if number in day]
    if not places:
        return False
    following = places[1:] + [places[0] + len(days)]
    return all([later - place <= gap for place, later in zip(places, following)])


def is_round(plan, value):
    """Whether any value is a ROUND."""
    _, gaps = need_plan(plan)
    if not isinstance(value, tuple) or not 1 <= len(value) <= MOST_DAYS:
        return False
    if not all([is_day(plan, day) for day in value]):
        return False
    return all([comes_round(value, number, gap) for number, gap in enumerate(gaps)])


def on_shortest_ring(ways):
    """A STANDING to which one comes back in as few DAYS as to any other one."""
    marks = {standing: 1 << place for place, standing in enumerate(ways)}
    # For each STANDING the marks, in one integer, of all from which it is reached in just so many DAYS.
    sources = marks
    while True:
        reached = {standing: 0 for standing in ways}
        for standing in ways:
            for later in ways[standing]:
                reached[later] |= sources[standing]
        for standing in ways:
            if reached[standing] & marks[standing]:
                return standing
        sources = reached


def ring_through(ways, start):
    """The STANDINGS behind each DAY on the way from one back to the very same, as few as can be."""
    ahead_of = {}
    newest = [start]
    while start not in ahead_of:
        reached = []
        for standing in newest:
            for later in ways[standing]:
                if later not in ahead_of:
                    ahead_of[later] = standing
                    reached.append(later)
        newest = reached
    ring = [start]
    while ahead_of[ring[-1]] != start:
        ring.append(ahead_of[ring[-1]])
    return ring[::-1]


def day_ahead(gaps, standing):
    """The DAY that a STANDING is behind: only what came on it has its whole GAP."""
    return tuple([number for number, gap in enumerate(gaps) if standing[number] == gap])


def round_by(gaps, ways):
    """A ROUND with as few DAYS as can be, by the ways between the STANDINGS that last."""
    return tuple([day_ahead(gaps, standing) for standing in ring_through(ways, on_shortest_ring(ways))])


def shortest_round(plan):
    """A ROUND with as few DAYS as can be."""
    _, gaps = need_plan(plan)
    need_few_standings(plan)
    ways = ways_of(plan)
    ranks = ranks_by(ways)
    if gaps in ranks:
        raise Never()
    return round_by(gaps, lasting_ways(ways, ranks))


def plan_paper(plan):
    """A PAPER on whether the PLAN lasts."""
    _, gaps = need_plan(plan)
    need_few_standings(plan)
    ways = ways_of(plan)
    ranks = ranks_by(ways)
    if gaps in ranks:
        return "lost", tuple(sorted(ranks.items()))
    return "round", round_by(gaps, lasting_ways(ways, ranks))


def is_rank_pair(gaps, value):
    """Whether any value is a pair of a STANDING and a RANK."""
    if not isinstance(value, tuple) or len(value) != 2:
        return False
    standing, rank = value
    return is_standing(gaps, standing) and is_whole(rank) and rank >= 0


def are_in_form(gaps, value):
    """Whether any value is an ascending tuple of such pairs, no STANDING twice, the first one among them."""
    if not isinstance(value, tuple) or not all([is_rank_pair(gaps, pair) for pair in value]):
        return False
    standings = [standing for standing, _ in value]
    if not all([one < other for one, other in zip(standings, standings[1:])]):
        return False
    return gaps in standings


def marks_at_least(column):
    """For each number in a column the marks, in one integer, of the places with this number or a greater one."""
    places = {left: 0 for left in column}
    for place, left in enumerate(column):
        places[left] |= 1 << place
    marks, so_far = {}, 0
    for left in sorted(list(places), reverse=True):
        so_far |= places[left]
        marks[left] = so_far
    return marks


def marks_of_lesser(ranks):
    """For each RANK of an ascending list the marks, in one integer, of the places with a lesser one."""
    marks = {}
    for place, rank in enumerate(ranks):
        if rank not in marks:
            marks[rank] = (1 << place) - 1
    return marks


def leads_to_marked(gaps, days, standing, marked, columns):
    """Whether behind each of the DAYS that is right the STANDING is at most one of those that are marked."""
    if_come = [marks[gap] for marks, gap in zip(columns, gaps)]
    if_not = [marks.get(left - 1, marks[left]) for marks, left in zip(columns, standing)]
    for day in days:
        if has_all_due(standing, day):
            found = marked
            for number in range(len(gaps)):
                found &= if_come[number] if number in day else if_not[number]
            if found == 0:
                return False
    return True


def are_ranks(plan, value):
    """Whether any value is RANKS of STANDINGS that are lost."""
    _, gaps = plan
    if not are_in_form(gaps, value):
        return False
    # Integers with a bit for each pair find a greater STANDING with a lesser RANK without going through all pairs.
    pairs = sorted([(rank, standing) for standing, rank in value])
    lesser = marks_of_lesser([rank for rank, _ in pairs])
    columns = [marks_at_least([pair[1][number] for pair in pairs]) for number in range(len(gaps))]
    days = full_days(plan)
    return all([leads_to_marked(gaps, days, standing, lesser[rank], columns) for rank, standing in pairs])


def check_plan(plan, paper):
    """The first word of a PAPER that holds on whether the PLAN lasts."""
    need_plan(plan)
    if not isinstance(paper, tuple) or len(paper) != 2 or not isinstance(paper[0], str):
        raise BadPaper("form")
    word, told = paper
    if word == "round":
        if not is_round(plan, told):
            raise BadPaper("round")
    elif word == "lost":
        if not are_ranks(plan, told):
            raise BadPaper("lost")
    else:
        raise BadPaper("form")
    return word
