"""Texts of PLANS, DAYS and ROWS, written and read."""

from oftenenough.errors import BadDay, BadRow, BadText
from oftenenough.plans import MOST_THINGS, need_plan
from oftenenough.rows import MOST_DAYS, is_day, row_behind

FIGURES = "0123456789"
MOST_FIGURES = 31
NO_THINGS = "-"
NO_DAYS = "none"
FIRST_GAP = 3


def text_of_numbers(numbers):
    """Numbers with a space between."""
    return " ".join([str(number) for number in numbers])


def text_of_day(day):
    """The text of a DAY of any PLAN."""
    return "+".join([str(number) for number in day]) if day else NO_THINGS


def text_of_days(days):
    """The texts of DAYS of any PLAN with a space between."""
    return " ".join([text_of_day(day) for day in days]) if days else NO_DAYS


def plan_text(plan):
    """The text of a PLAN."""
    hands, gaps = need_plan(plan)
    return "hands " + str(hands) + " gaps " + text_of_numbers(gaps)


def day_text(plan, day):
    """The text of a DAY."""
    need_plan(plan)
    if not is_day(plan, day):
        raise BadDay(day)
    return text_of_day(day)


def row_text(plan, row):
    """The text of a ROW, right or not."""
    need_plan(plan)
    if not isinstance(row, (list, tuple)) or len(row) > MOST_DAYS:
        raise BadRow(None)
    for place, day in enumerate(row):
        if not is_day(plan, day):
            raise BadRow(place)
    return text_of_days(row)


def words_of(text):
    """What stands between the spaces of a text; BadText for any other value."""
    if not isinstance(text, str):
        raise BadText(None)
    return text.split(" ")


def is_number_word(word):
    """Whether a word is a number of at most 31 figures without a needless 0."""
    if not 1 <= len(word) <= MOST_FIGURES or not all([sign in FIGURES for sign in word]):
        return False
    return word == "0" or word[0] != "0"


def is_day_word(word):
    """Whether a word has the form of the text of a DAY."""
    return word == NO_THINGS or all([len(part) == 1 and part in FIGURES for part in word.split("+")])


def can_stand(place, word):
    """Whether a word can stand in a place of the text of a PLAN."""
    if place == 0:
        return word == "hands"
    if place == 2:
        return word == "gaps"
    return place < FIRST_GAP + MOST_THINGS and is_number_word(word)


def day_of(word):
    """What stands in a word that has the form of the text of a DAY."""
    return () if word == NO_THINGS else tuple([int(part) for part in word.split("+")])


def read_plan(text):
    """The PLAN of a text."""
    words = words_of(text)
    for place, word in enumerate(words):
        if not can_stand(place, word):
            raise BadText(place)
    if len(words) <= FIRST_GAP:
        raise BadText(len(words))
    return need_plan((int(words[1]), tuple([int(word) for word in words[FIRST_GAP:]])))


def read_day(plan, text):
    """The DAY of a text."""
    need_plan(plan)
    words = words_of(text)
    if not is_day_word(words[0]):
        raise BadText(0)
    if len(words) > 1:
        raise BadText(1)
    day = day_of(words[0])
    if not is_day(plan, day):
        raise BadDay(day)
    return day


def read_row(plan, text):
    """The right ROW of a text."""
    need_plan(plan)
    words = words_of(text)
    if words[0] == NO_DAYS:
        if len(words) > 1:
            raise BadText(1)
        return ()
    for place, word in enumerate(words):
        if not is_day_word(word):
            raise BadText(place)
    row = tuple([day_of(word) for word in words])
    row_behind(plan, row)
    return row
