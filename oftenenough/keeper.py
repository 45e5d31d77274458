"""A live keeper: DAYS as they are done, changes of the PLAN, all of which can be taken back."""

from oftenenough.errors import BadDay, BadPlan, NothingLeft, TooGreat
from oftenenough.plans import need_number, need_plan
from oftenenough.rows import is_right_day, right_days, standing_behind
from oftenenough.standings import lasting_days, lasts

MOST_DEEDS = 400


class Past:
    """What a keeper had done when a block began, and below it what is held for the block around that one."""

    def __init__(self, deeds, stands, below):
        self.deeds = deeds
        self.stands = stands
        self.below = below


class Trial:
    """What a with statement goes over: behind its block the keeper is as it was when the block began."""

    def __init__(self, one):
        self.one = one
        # One Trial may be gone over again inside of its own block.
        self.held = None

    def __enter__(self):
        self.held = Past(self.one.deeds, self.one.stands, self.held)
        return self.one

    def __exit__(self, kind, value, trace):
        self.one.deeds = self.held.deeds
        self.one.stands = self.held.stands
        self.held = self.held.below


class Keeper:
    """A live keeper of a PLAN.

    Its deeds are pairs, a word and a DAY or a PLAN; its stands are the PLAN and the STANDING at first and behind each
    deed. Both are tuples that are never changed, only replaced, so a copy and a Trial can hold on to them.
    """

    def __init__(self, plan):
        _, gaps = need_plan(plan)
        self.began = plan
        self.deeds = ()
        self.stands = ((plan, gaps),)

    def __len__(self):
        return len(self.deeds)

    def __eq__(self, other):
        return isinstance(other, Keeper) and self.began == other.began and self.deeds == other.deeds

    @property
    def plan(self):
        """The PLAN as it is now."""
        return self.stands[-1][0]

    @property
    def standing(self):
        """The STANDING now."""
        return self.stands[-1][1]

    def do(self, word, thing, plan, standing):
        """Notes a deed and what it leads to."""
        if len(self.deeds) >= MOST_DEEDS:
            raise TooGreat(MOST_DEEDS)
        self.deeds = self.deeds + ((word, thing),)
        self.stands = self.stands + ((plan, standing),)

    def day(self, day):
        """Does a DAY that is right, and tells the STANDING then."""
        _, gaps = self.plan
        if not is_right_day(self.plan, self.standing, day):
            raise BadDay(day)
        self.do("day", day, self.plan, standing_behind(gaps, self.standing, day))
        return self.standing

    def change(self, plan):
        """Goes on by another PLAN with as many things, each as long ago as it was."""
        _, gaps = need_plan(plan)
        if len(gaps) != len(self.standing):
            raise BadPlan((1,))
        agos = [self.ago(number) for number in range(len(gaps))]
        self.do("change", plan, plan, tuple([max(1, gap - days) for gap, days in zip(gaps, agos)]))

    def may(self):
        """The ascending tuple of the DAYS that are right."""
        return right_days(self.plan, self.standing)

    def keep(self):
        """The ascending tuple of the DAYS behind which the STANDING lasts."""
        return lasting_days(self.plan, self.standing)

    def lasts(self):
        """Whether the STANDING lasts."""
        return lasts(self.plan, self.standing)

    def advice(self):
        """Of the DAYS behind which the STANDING lasts the least one with the fewest things, None if there is none."""
        return min(self.keep(), key=lambda day: (len(day), day), default=None)

    def ago(self, number):
        """How many days ago a thing came: its GAP less what the STANDING has."""
        _, gaps = self.plan
        need_number(gaps, number)
        return gaps[number] - self.standing[number]

    def row(self):
        """The tuple of all DAYS done."""
        return tuple([thing for word, thing in self.deeds if word == "day"])

    def undo(self):
        """Takes back the last deed."""
        if not self.deeds:
            raise NothingLeft()
        self.deeds = self.deeds[:-1]
        self.stands = self.stands[:-1]

    def copy(self):
        """Another keeper that stands as this one."""
        twin = Keeper(self.began)
        twin.deeds = self.deeds
        twin.stands = self.stands
        return twin

    def trial(self):
        """For a with statement, of which the block gets this keeper and leaves it as it was."""
        return Trial(self)


def under(manager, deed):
    """What deed tells of what the manager gives, called in a with statement over the manager."""
    with manager as one:
        return deed(one)
