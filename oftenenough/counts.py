"""LASTING ROWS: how many there are of so many DAYS, and which one has which number."""

from oftenenough.errors import BadNumber, BadRow
from oftenenough.plans import is_between, is_whole, need_plan
from oftenenough.rows import is_right, row_behind
from oftenenough.standings import lasting_steps, need_few_standings

MOST_COUNTED = 200


def need_many(many):
    """BadNumber for any value that is no number of DAYS that are counted."""
    if not is_between(many, 0, MOST_COUNTED):
        raise BadNumber(many)


def counts_by(steps, many):
    """For each number of DAYS from 0 to many, how many LASTING ROWS go on for so many DAYS from each STANDING."""
    counts = [{standing: 1 for standing in steps}]
    for _ in range(many):
        fewer = counts[-1]
        counts.append({standing: sum([fewer[later] for _, later in steps[standing]]) for standing in steps})
    return counts


def many_rows(plan, many):
    """How many LASTING ROWS of so many DAYS there are."""
    _, gaps = need_plan(plan)
    need_many(many)
    need_few_standings(plan)
    return counts_by(lasting_steps(plan), many)[many].get(gaps, 0)


def row_at(plan, many, number):
    """The LASTING ROW of so many DAYS with a number."""
    _, gaps = need_plan(plan)
    need_many(many)
    # What is no number at all is refused ahead of TooGreat, what is too great for the ROWS that there are behind it.
    if not is_whole(number) or number < 0:
        raise BadNumber(number)
    need_few_standings(plan)
    steps = lasting_steps(plan)
    counts = counts_by(steps, many)
    if number >= counts[many].get(gaps, 0):
        raise BadNumber(number)
    days, standing, left = [], gaps, number
    for fewer in counts[:many][::-1]:
        for day, later in steps[standing]:
            if left < fewer[later]:
                break
            left -= fewer[later]
        days.append(day)
        standing = later
    return tuple(days)


def number_of(plan, row):
    """The number of a LASTING ROW among those with as many DAYS."""
    _, gaps = need_plan(plan)
    if not is_right(plan, row) or len(row) > MOST_COUNTED:
        raise BadRow(None)
    need_few_standings(plan)
    steps = lasting_steps(plan)
    if row_behind(plan, row) not in steps:
        raise BadRow(None)
    counts = counts_by(steps, len(row))
    number, standing = 0, gaps
    for fewer, wanted in zip(counts[:len(row)][::-1], row):
        number += sum([fewer[later] for day, later in steps[standing] if day < wanted])
        standing = dict(steps[standing])[wanted]
    return number
