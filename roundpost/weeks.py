"""Weeks, the rounds in which roads are walked day by day, and the moments of their days."""

from roundpost.counts import is_count
from roundpost.errors import BadMoment, BadWeek
from roundpost.webs import are_unlike_roads

MOST_ROUNDS = 4
LAST_DAY = 1000000


def is_week(web, thing):
    """Whether it is a week of the web: a tuple of one to four rounds."""
    if not isinstance(thing, tuple) or not 1 <= len(thing) <= MOST_ROUNDS:
        return False
    return all([are_unlike_roads(web, names) for names in thing])


def need_week(web, week):
    """Raises BadWeek for what is no week of the web."""
    if not is_week(web, week):
        raise BadWeek("this is no week of the web")


def round_of(week, day):
    """The roads that are walked on this day, in their sequence."""
    return week[(day - 1) % len(week)]


def is_moment(week, thing):
    """Whether it is a moment of the week: a tuple of a day and how many of its walks lie ahead of it."""
    if not isinstance(thing, tuple) or len(thing) != 2:
        return False
    day, walks = thing
    return is_count(day, 1, LAST_DAY) and is_count(walks, 0, len(round_of(week, day)))


def need_moment(week, moment):
    """Raises BadMoment for what is no moment of the week."""
    if not is_moment(week, moment):
        raise BadMoment("this is no moment of the week")


def next_walk(week, name, moment):
    """The (day, index in the round) of the first walk of a road behind a moment, None if it is never walked."""
    first = moment[0]
    # The road may be walked on the first day alone, ahead of the moment, so that day's round is looked at twice.
    for day in range(first, first + len(week) + 1):
        names = round_of(week, day)
        if name in names and (day, names.index(name)) >= moment:
            return day, names.index(name)
    return None
