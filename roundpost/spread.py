"""How news goes by the walks: the places that it comes to, and from when on it is there."""

from roundpost.webs import ends_of, steps_from
from roundpost.weeks import round_of


def walked_web(web, week):
    """The web without the roads that stand in no round."""
    places, roads = web
    return places, tuple([road for road in roads if any([road[0] in names for names in week])])


def reached(web, week, place):
    """The ascending list of the places to which news from this one comes, itself among them."""
    return sorted(steps_from(walked_web(web, week), place))


def spread(web, week, place, moment, fallen=()):
    """The dict of the moments from which on the news of a place and a moment is at each place that it comes to.

    The walks in fallen, each as (day, road), are left out.
    """
    ends = ends_of(web)
    known = {place: moment}
    day, start = moment
    idle = 0
    # The first day may have begun, so it takes one day more than there are rounds to see each of them whole.
    while len(known) < len(web[0]) and idle <= len(week):
        idle = idle + 1
        names = round_of(week, day)
        for index in range(start, len(names)):
            near, far = ends[names[index]]
            if (near in known) != (far in known):
                # What would have come, but for a walk that falls out, may still come.
                idle = 0
                if (day, names[index]) not in fallen:
                    known[far if near in known else near] = (day, index + 1)
        day, start = day + 1, 0
    return known


def listed(web, known):
    """The list, in the sequence of the web's places, of what a dict has for each, None where it has nothing."""
    return [known.get(place) for place in web[0]]


def days_from(web, week, place, fallen=()):
    """The list of the days on which news of the dawn of this place comes to each place, None for never."""
    known = spread(web, week, place, (1, 0), fallen)
    come = {other: known[other][0] for other in known}
    # Where it sets out it need not come: that day is told as 0.
    come[place] = 0
    return listed(web, come)
