"""What the package raises.

No message contains the field: it may be any value, also one that is very long.
"""


class TurnError(ValueError):
    """Any argument that is refused."""


class BadPlan(TurnError):
    """A value that is no PLAN: place tells where it is wrong."""

    def __init__(self, place):
        super().__init__("this is no plan")
        self.place = place


class BadDay(TurnError):
    """A value that is no DAY, or none that is right."""

    def __init__(self, value):
        super().__init__("this is no day that can come here")
        self.value = value


class BadRow(TurnError):
    """A value that is no ROW, or none that is right: place tells the first wrong DAY, or is None."""

    def __init__(self, place):
        super().__init__("this is no row that can come here")
        self.place = place


class BadStanding(TurnError):
    """A value that is no STANDING of the PLAN."""

    def __init__(self, value):
        super().__init__("this is no standing of the plan")
        self.value = value


class BadNumber(TurnError):
    """A value that is no number of the kind that is asked for."""

    def __init__(self, value):
        super().__init__("this is no number that can stand here")
        self.value = value


class BadParts(TurnError):
    """A value that is no PARTS of the PLAN."""

    def __init__(self, value):
        super().__init__("these are no parts of the plan")
        self.value = value


class BadPaper(TurnError):
    """A PAPER that does not hold: word tells what of it."""

    def __init__(self, word):
        super().__init__("this paper does not hold")
        self.word = word


class BadText(TurnError):
    """A text that has not the form: word tells the first word that cannot stand there, or is None."""

    def __init__(self, word):
        super().__init__("this text has not the form")
        self.word = word


class NothingLeft(TurnError):
    """There is no deed to take back."""

    def __init__(self):
        super().__init__("nothing is left to take back")


class TooGreat(OverflowError):
    """There is more to look at than most."""

    def __init__(self, most):
        super().__init__("there is too much to look at")
        self.most = most


class Never(LookupError):
    """What is asked of a PLAN that does not last."""

    def __init__(self):
        super().__init__("the plan does not last")
