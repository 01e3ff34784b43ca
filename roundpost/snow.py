"""Walks that fall out: when news comes in snow, and the snow that makes it latest."""

from math import comb

from roundpost.counts import is_count, need_count
from roundpost.errors import BadPlace, BadSnow, TooMany
from roundpost.rotas import need_rota
from roundpost.spread import days_from, listed, spread
from roundpost.webs import ends_of, need_place, need_web
from roundpost.weeks import need_moment, need_week

MOST_FALLEN = 8
LAST_SNOW_DAY = 1000
MOST_COUNT = 3
MOST_CHOICES = 10000


def is_fallen_walk(ends, thing):
    """Whether it is a tuple of a day and a road."""
    if not isinstance(thing, tuple) or len(thing) != 2:
        return False
    day, name = thing
    return is_count(day, 1, LAST_SNOW_DAY) and isinstance(name, str) and name in ends


def is_snow(web, thing):
    """Whether it is a tuple of at most eight days and roads, none twice."""
    if not isinstance(thing, tuple) or len(thing) > MOST_FALLEN:
        return False
    ends = ends_of(web)
    return all([is_fallen_walk(ends, walk) for walk in thing]) and len(set(thing)) == len(thing)


def need_snow(web, snow):
    """Raises BadSnow for what is no snow of the web."""
    if not is_snow(web, snow):
        raise BadSnow("this is no snow of the web")


def snow_arrivals(web, week, place, moment, snow):
    """The list of the moments from which on the news is at each place in snow, None where it never comes."""
    need_web(web)
    need_week(web, week)
    need_place(web, place)
    need_moment(week, moment)
    need_snow(web, snow)
    return listed(web, spread(web, week, place, moment, snow))


def snow_days(web, rota, place, other, snow):
    """The day on which news of the dawn comes to the other place in snow, 0 for the same place, None for never."""
    need_web(web)
    need_rota(web, rota)
    need_place(web, place)
    need_place(web, other)
    need_snow(web, snow)
    return days_from(web, (rota,), place, snow)[web[0].index(other)]


def quickest(route, fallen):
    """The walks by which news of the dawn comes first from the route's place to its other one, in snow."""
    walked, place, other = route
    came = {place: ()}
    day = 0
    while other not in came:
        day = day + 1
        for name, near, far in walked:
            if (near in came) != (far in came) and (day, name) not in fallen:
                here, there = (near, far) if near in came else (far, near)
                came[there] = (*came[here], (day, name))
    return came[other]


def worst_day(route, fallen, count):
    """The greatest day that so many walks more falling out can make."""
    steps = quickest(route, fallen)
    first = steps[-1][0]
    worst = first
    for walk in steps:
        # Each walk makes it at most a day later, and none does so but those by which the news comes.
        if worst < first + count:
            worst = max(worst, worst_day(route, (*fallen, walk), count - 1))
    return worst


def can_make(route, fallen, last, count, goal):
    """Whether at most so many walks behind the last, falling out too, make the news come on this day or later."""
    steps = quickest(route, fallen)
    first = steps[-1][0]
    if first >= goal or first + count < goal:
        return first >= goal
    for walk in steps:
        if walk > last and can_make(route, (*fallen, walk), last, count - 1, goal):
            return True
    return False


def first_snow(route, walks, count, goal):
    """The first snow of just so many of the walks that makes the news come on this day."""
    chosen = ()
    for left in range(count - 1, -1, -1):
        for walk in walks:
            # More walks fallen make nothing earlier, so what fewer can make just so many can, needless ones too.
            if (not chosen or walk > chosen[-1]) and can_make(route, (*chosen, walk), walk, left, goal):
                chosen = (*chosen, walk)
                break
    return chosen


def worst_snow(web, rota, place, other, count):
    """The greatest day that so many walks falling out can make, and the first snow that makes it."""
    need_web(web)
    need_rota(web, rota)
    need_place(web, place)
    need_place(web, other)
    if place == other:
        raise BadPlace("these are not two places")
    need_count(count, 0, MOST_COUNT)
    first = days_from(web, (rota,), place)[web[0].index(other)]
    if first is None:
        return None, ()
    walks = [(day, name) for day in range(1, first + count + 1) for name in sorted(rota)]
    choices = comb(len(walks), count)
    if choices > MOST_CHOICES:
        raise TooMany(f"there are {choices} choices of walks")
    ends = ends_of(web)
    route = ([(name, *ends[name]) for name in rota], place, other)
    worst = worst_day(route, (), count)
    return worst, first_snow(route, walks, count, worst)
