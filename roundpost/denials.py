"""News with a denial behind it: who believes it and how long, and what comes later if it sets out later."""

from roundpost.errors import BadMoment
from roundpost.rotas import need_rota
from roundpost.spread import listed, spread
from roundpost.webs import need_place, need_web
from roundpost.weeks import need_moment, need_week


def beliefs(web, week, place, moment, other, later):
    """The list of (from, until) for each place, until None for ever, None for places that never believe."""
    need_web(web)
    need_week(web, week)
    need_place(web, place)
    need_moment(week, moment)
    need_place(web, other)
    need_moment(week, later)
    known = spread(web, week, place, moment)
    denied = spread(web, week, other, later)
    believed = {}
    for one, since in known.items():
        until = denied.get(one)
        if until is None or since < until:
            believed[one] = (since, until)
    return listed(web, believed)


def last_belief(web, week, place, moment, other, later):
    """The greatest until, None if some place believes for ever, the earlier moment if none ever believes."""
    spans = [span for span in beliefs(web, week, place, moment, other, later) if span is not None]
    ends = [until for _, until in spans]
    if None in ends:
        return None
    return max(ends, default=min(moment, later))


def lags(web, rota, place, moment, later):
    """The list of the days by which what sets out at the later moment is later at each place, None for never."""
    need_web(web)
    need_rota(web, rota)
    need_place(web, place)
    week = (rota,)
    need_moment(week, moment)
    need_moment(week, later)
    if later < moment:
        raise BadMoment("the second moment is earlier than the first")
    first = spread(web, week, place, moment)
    second = spread(web, week, place, later)
    return listed(web, {one: second[one][0] - first[one][0] for one in first})


def same_days(web, rota, place):
    """The list of the tuples of numbers of walks of day 1 from which news comes everywhere on the same days."""
    need_web(web)
    need_rota(web, rota)
    need_place(web, place)
    found = []
    latest = None
    for walks in range(len(rota) + 1):
        known = spread(web, (rota,), place, (1, walks))
        come = {one: known[one][0] for one in known}
        if come == latest:
            found[-1] = (*found[-1], walks)
        else:
            found.append((walks,))
        latest = come
    return found
