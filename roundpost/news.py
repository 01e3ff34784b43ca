"""News: when it is where, by which trails it comes, and why it never comes."""

from roundpost.counts import is_whole
from roundpost.errors import BadTrail
from roundpost.spread import days_from, listed, reached, spread, walked_web
from roundpost.tables import slowest_in, table_of
from roundpost.webs import ends_of, need_place, need_web, places_along, roads_at
from roundpost.weeks import need_moment, need_week, next_walk, round_of


def arrivals(web, week, place, moment):
    """The list of the moments from which on the news is at each place, None where it never comes."""
    need_start(web, week, place, moment)
    return listed(web, spread(web, week, place, moment))


def need_start(web, week, place, moment):
    """Raises the error of the first of these that is not right."""
    need_web(web)
    need_week(web, week)
    need_place(web, place)
    need_moment(week, moment)


def need_two(web, week, place, other):
    """Raises the error of the first of these that is not right."""
    need_web(web)
    need_week(web, week)
    need_place(web, place)
    need_place(web, other)


def days(web, week, place, other):
    """The day on which news of the dawn of the first place comes to the other, 0 for the same, None for never."""
    need_two(web, week, place, other)
    return days_from(web, week, place)[web[0].index(other)]


def day_table(web, week):
    """The list of the lists of all days, from each place in turn to each."""
    need_web(web)
    need_week(web, week)
    return table_of(web, week)


def slowest(web, week):
    """The greatest of all days, None if there is one that never is, and the first two places that have it."""
    return slowest_in(web, day_table(web, week))


def trail(web, week, place, moment, other):
    """A trail by which the news comes as early as it can, by as few roads as then it can; None if it never comes."""
    need_start(web, week, place, moment)
    need_place(web, other)
    known = spread(web, week, place, moment)
    if other not in known:
        return None
    best = {place: (moment, ())}
    while other not in best or best[other][0] > known[other]:
        best = best_by_one_more(web, week, best)
    return best[other][1]


def best_by_one_more(web, week, best):
    """The dict of the earliest (moment, trail) to each place by one road more than those in best may have."""
    found = {place: best[place] for place in best}
    for place, (since, steps) in best.items():
        for name, there in roads_at(web, place):
            walk = next_walk(week, name, since)
            if walk is None:
                continue
            day, index = walk
            if there not in found or (day, index + 1) < found[there][0]:
                found[there] = ((day, index + 1), (*steps, (name, day)))
    return found


def goal_of(web, week, place, moment, thing):
    """The place and the moment to which a trail leads from these, None for what is no trail from there."""
    if not isinstance(thing, tuple):
        return None
    ends = ends_of(web)
    here, since = place, moment
    for step in thing:
        if not is_step(ends, step):
            return None
        name, day = step
        come_to = places_along(ends, (name,), here)
        walk = next_walk(week, name, (day, 0))
        # A walk of another day shows that the road is not walked on this one.
        if come_to is None or walk is None or walk[0] != day or walk < since:
            return None
        here, since = come_to[0], (day, walk[1] + 1)
    return here, since


def is_step(ends, thing):
    """Whether it is a tuple of a road and an integer."""
    if not isinstance(thing, tuple) or len(thing) != 2:
        return False
    return isinstance(thing[0], str) and thing[0] in ends and is_whole(thing[1])


def trail_holds(web, week, place, moment, thing):
    """Whether it is a trail from the place and the moment."""
    need_start(web, week, place, moment)
    return goal_of(web, week, place, moment, thing) is not None


def trail_end(web, week, place, moment, trail):
    """The place where a trail ends, and the moment from which on the news is there by it."""
    need_start(web, week, place, moment)
    goal = goal_of(web, week, place, moment, trail)
    if goal is None:
        raise BadTrail("this is no trail from the place and the moment")
    return goal


def never_paper(web, week, place, other):
    """The ascending tuple of the places to which news from the first comes, None if the other is one of them."""
    need_two(web, week, place, other)
    known = reached(web, week, place)
    return None if other in known else tuple(known)


def never_holds(web, week, place, other, thing):
    """Whether it is an ascending tuple of places, with the first and without the other, that no walk leaves."""
    need_two(web, week, place, other)
    if not isinstance(thing, tuple) or not all([isinstance(one, str) and one in web[0] for one in thing]):
        return False
    if list(thing) != sorted(set(thing)) or place not in thing or other in thing:
        return False
    return not any([(near in thing) != (far in thing) for _, near, far in walked_web(web, week)[1]])
