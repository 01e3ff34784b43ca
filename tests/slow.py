"""Slow reckonings, by the document's own words, with which results are compared."""

from itertools import permutations

from samples import all_rotas, walked


def round_on(week, day):
    return week[(day - 1) % len(week)]


def slow_moments(week, first, last):
    """All moments of these days, in their sequence."""
    return [(day, walks) for day in range(first, last + 1) for walks in range(len(round_on(week, day)) + 1)]


def slow_walks(week, first, last):
    """The (day, index, road) of all walks of these days, one by one."""
    return [(day, k, name) for day in range(first, last + 1) for k, name in enumerate(round_on(week, day))]


def enough_days(web, week):
    """So many days that news is everywhere by then, if it ever comes."""
    return len(web[0]) * len(week) + len(week)


def slow_spread(web, week, place, moment, fallen=(), days=None):
    """The dict of the moments from which on news is at each place, by going through the walks one by one."""
    has = {place: moment}
    ends = {name: (near, far) for name, near, far in web[1]}
    last = moment[0] + (enough_days(web, week) if days is None else days) + len(fallen) * len(week)
    for day, k, name in slow_walks(week, moment[0], last):
        if (day, k) < moment or (day, name) in fallen:
            continue
        for here, there in [ends[name], ends[name][::-1]]:
            if here in has and has[here] <= (day, k) and there not in has:
                has[there] = (day, k + 1)
    return has


def slow_arrivals(web, week, place, moment, fallen=()):
    has = slow_spread(web, week, place, moment, fallen)
    return [has.get(other) for other in web[0]]


def simple_ways(web, place):
    """The (names, end) of all ways from a place that come to no place twice."""
    found = [((), place)]
    seen = [((), place, {place})]
    while seen:
        names, here, come_to = seen.pop()
        for name, near, far in web[1]:
            if here in (near, far):
                there = far if here == near else near
                if there not in come_to:
                    seen.append((names + (name,), there, come_to | {there}))
                    found.append((names + (name,), there))
    return found


def falls_of(rota, names):
    return sum(rota.index(later) <= rota.index(ahead) for ahead, later in zip(names, names[1:]))


def slow_day(web, rota, place, other):
    """The least of one and the falls of all ways, 0 for the same place, None if there is no way."""
    if place == other:
        return 0
    return min([1 + falls_of(rota, names) for names, end in simple_ways(web, place) if end == other], default=None)


def slow_table(web, rota):
    return [[slow_day(web, rota, place, other) for other in web[0]] for place in web[0]]


def slow_slowest(web, table):
    """The greatest day with the first two places that have it, by going through the pairs."""
    places = web[0]
    pairs = [(i, j) for i in range(len(places)) for j in range(len(places)) if i != j]
    if not pairs:
        return 0, places[0], places[0]
    never = [(i, j) for i, j in pairs if table[i][j] is None]
    greatest = None if never else max(table[i][j] for i, j in pairs)
    i, j = [(i, j) for i, j in pairs if table[i][j] == greatest][0]
    return greatest, places[i], places[j]


def walk_of_day(week, name, day):
    """The index of a road in the round of a day, None if it is not walked then."""
    names = round_on(week, day)
    return names.index(name) if day >= 1 and name in names else None


def goal_of_trail(web, week, place, moment, steps):
    """(place, moment) to which the steps lead by the words of point 12, None if they are no trail."""
    here, since = place, moment
    for name, day in steps:
        come_to = walked(web, here, (name,))
        index = walk_of_day(week, name, day)
        if come_to is None or index is None or (day, index) < since:
            return None
        here, since = come_to[0], (day, index + 1)
    return here, since


def fewest_roads(web, week, place, moment, other, until):
    """The least number of roads of a trail that is at the other place at just this moment."""
    states = {(place, moment)}
    many = 0
    while (other, until) not in states:
        many += 1
        later = set()
        for here, since in states:
            for day, k, name in slow_walks(week, since[0], until[0]):
                come_to = walked(web, here, (name,))
                if (day, k) >= since and come_to is not None and (day, k + 1) <= until:
                    later.add((come_to[0], (day, k + 1)))
        states = later
    return many


def slow_orders(web, rota):
    """The sequences of the roads at each place, taken from the rota one by one."""
    ends = {name: (near, far) for name, near, far in web[1]}
    return [tuple(name for name in rota if place in ends[name]) for place in web[0]]


def have_common_place(web, one, other):
    ends = {name: {near, far} for name, near, far in web[1]}
    return bool(ends[one] & ends[other])


def by_exchanges(web, rota):
    """The set of the rotas that come of this one by exchanging neighbours that have no place in common."""
    found = {rota}
    latest = [rota]
    while latest:
        here = latest.pop()
        for k in range(len(here) - 1):
            if not have_common_place(web, here[k], here[k + 1]):
                there = here[:k] + (here[k + 1], here[k]) + here[k + 2:]
                if there not in found:
                    found.add(there)
                    latest.append(there)
    return found


def slow_rota_for(web, orders):
    """The first of all rotas that has these local orders, None if there is none."""
    return next((rota for rota in all_rotas(web) if slow_orders(web, rota) == orders), None)


def slow_ahead(orders, one, other):
    """Whether the one road stands, near or far, ahead of the other at some place."""
    return any(one in names and other in names and names.index(one) < names.index(other) for names in orders)


def all_orders(web):
    """All lists of local orders of a web."""
    found = [[]]
    for place in web[0]:
        names = [name for name, near, far in web[1] if place in (near, far)]
        found = [orders + [tuple(chosen)] for orders in found for chosen in permutations(names)]
    return found


def walked_table(web, rota, fallen=()):
    """The list of the lists of all days by a rota, by carrying all that is known at either end, walk by walk."""
    ends = {name: two for name, *two in web[1]}
    known = {place: {place} for place in web[0]}
    days = {(place, place): 0 for place in web[0]}
    for day in range(1, len(web[0]) + len(fallen) + 1):
        for name in rota:
            if (day, name) not in fallen:
                both = set().union(*[known[place] for place in ends[name]])
                for place in ends[name]:
                    known[place] = both
                    for other in both:
                        days.setdefault((other, place), day)
    return [[days.get((place, other)) for other in web[0]] for place in web[0]]
