"""A desk: lines that a live keeper answers."""

from oftenenough.errors import BadText, TooGreat, TurnError
from oftenenough.keeper import Keeper
from oftenenough.plans import share_of
from oftenenough.texts import (
    is_number_word, plan_text, read_day, read_plan, text_of_day, text_of_days, text_of_numbers,
)


def say_day(keeper, text):
    """Does a DAY."""
    return text_of_numbers(keeper.day(read_day(keeper.plan, text)))


def say_change(keeper, text):
    """Does a change."""
    keeper.change(read_plan(text))
    return "done"


def say_ago(keeper, text):
    """How many days ago a thing came."""
    if not is_number_word(text):
        raise BadText(1)
    return str(keeper.ago(int(text)))


def say_undo(keeper):
    """Takes back what was done last."""
    keeper.undo()
    return "done"


def say_standing(keeper):
    """The STANDING."""
    return text_of_numbers(keeper.standing)


def say_plan(keeper):
    """The PLAN."""
    return plan_text(keeper.plan)


def say_days(keeper):
    """How many DAYS were done."""
    return str(len(keeper.row()))


def say_row(keeper):
    """The DAYS that were done."""
    return text_of_days(keeper.row())


def say_lasts(keeper):
    """Whether the STANDING lasts."""
    return "yes" if keeper.lasts() else "not"


def say_may(keeper):
    """The DAYS that are right."""
    return text_of_days(keeper.may())


def say_keep(keeper):
    """The DAYS behind which the STANDING lasts."""
    return text_of_days(keeper.keep())


def say_advice(keeper):
    """The DAY that is advised."""
    day = keeper.advice()
    return "none" if day is None else text_of_day(day)


def say_share(keeper):
    """The SHARE of the PLAN."""
    return text_of_numbers(share_of(keeper.plan))


# Lines of one word, and words behind which more stands.
ALONE = {
    "undo": say_undo, "standing": say_standing, "plan": say_plan, "days": say_days, "row": say_row,
    "lasts": say_lasts, "may": say_may, "keep": say_keep, "advice": say_advice, "share": say_share,
}
WITH_MORE = {"day": say_day, "change": say_change, "ago": say_ago}


def answer(keeper, line):
    """The answer of a keeper to a line; BadText for what is no line."""
    if not isinstance(line, str):
        raise BadText(None)
    if line in ALONE:
        act = ALONE[line]
        return act(keeper)
    word, _, more = line.partition(" ")
    if word not in WITH_MORE:
        raise BadText(0)
    act_with = WITH_MORE[word]
    return act_with(keeper, more)


class Desk:
    """A desk, opened with the text of a PLAN."""

    def __init__(self, text):
        self.led = Keeper(read_plan(text))

    @property
    def keeper(self):
        """The very keeper."""
        return self.led

    def say(self, line):
        """The answer to a line."""
        try:
            return answer(self.led, line)
        except (TurnError, TooGreat):
            return "no"
