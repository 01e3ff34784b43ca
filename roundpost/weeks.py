"""Weeks: the rounds in which roads are walked, day by day."""

from roundpost.errors import BadWeek
from roundpost.webs import are_unlike_roads

MOST_ROUNDS = 4


def is_week(web, thing):
    """Whether it is a week of the web: a tuple of one to four rounds."""
    if not isinstance(thing, tuple) or not 1 <= len(thing) <= MOST_ROUNDS:
        return False
    return all([are_unlike_roads(web, names) for names in thing])


def need_week(web, week):
    """Raises BadWeek for what is no week of the web."""
    if not is_week(web, week):
        raise BadWeek("this is no week of the web")
