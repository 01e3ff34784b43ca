"""Best orders: rotas by which news is early, rotas with the least slowest days, and rotas for a table of days."""

from roundpost.alike import rota_for, unlike_rotas
from roundpost.counts import is_whole, need_count
from roundpost.errors import BadTable, TooMany
from roundpost.rotas import need_rota, swapped
from roundpost.tables import days_until_all, known_behind, numbered_ends, slowest_in, table_of
from roundpost.webs import (
    ends_of, first_way, is_tree, longest_way, need_one_piece, need_place, need_tree, places_along, ring_of, roads_at,
    steps_from,
)

MOST_TRIED_ROADS = 6
MOST_DAYS = 100


def best_from(web, place):
    """The first rota, by the numbers of the roads, by which news from the place is everywhere on day 1."""
    need_one_piece(web)
    need_place(web, place)
    return first_kept(web, place, goes_out)


def best_home(web, place):
    """The first rota, by the numbers of the roads, by which news of all places is at the place on day 1."""
    need_one_piece(web)
    need_place(web, place)
    return first_kept(web, place, comes_home)


def goes_out(left, known, start, at):
    """Whether the roads left, if the one at this index goes, can bring the news of a place everywhere that day."""
    _, near, far = left[at]
    if known[near] >> start & 1 or known[far] >> start & 1:
        return True
    # Walked outwards, they bring it through each of their pieces in which somebody knows it.
    holders = [one for one in range(len(known)) if known[one] >> start & 1]
    return flooded(left[:at] + left[at + 1:], sum([1 << one for one in holders])) == (1 << len(known)) - 1


def comes_home(left, known, start, at):
    """Whether the roads left, if the one at this index goes, can bring all news to a place that day."""
    _, near, far = left[at]
    home = flooded(left[:at] + left[at + 1:], 1 << start)
    # Walked inwards, they bring home what is known in the place's piece, at an end of the road what is known at both.
    gathered = known[near] | known[far]
    for one in range(len(known)):
        if home >> one & 1:
            gathered = gathered | known[one]
    return gathered == (1 << len(known)) - 1


def flooded(left, bits):
    """The places, told by bits, that the roads left join with those in bits."""
    held = 0
    more = bits
    while more != held:
        held = more
        for _, near, far in left:
            if more >> near & 1 != more >> far & 1:
                more = more | 1 << near | 1 << far
    return held


def first_kept(web, place, can_go):
    """The first rota each of whose roads can go next, by the roads left and by what is known, told by bits."""
    numbers = {one: at for at, one in enumerate(web[0])}
    left = [(name, numbers[near], numbers[far]) for name, near, far in web[1]]
    known = [1 << at for at in range(len(numbers))]
    rota = []
    while left:
        at = 0
        while not can_go(left, known, numbers[place], at):
            at = at + 1
        name, near, far = left[at]
        known = known_behind([(near, far)], known)
        left = left[:at] + left[at + 1:]
        rota.append(name)
    return tuple(rota)


def least_of_tree(web):
    """The least slowest days of all rotas of a tree."""
    greatest = longest_way(web)[0]
    return greatest // 2 + 1 if greatest else 0


def best_tree_rota(web):
    """A rota of a tree with the least slowest days."""
    need_tree(web)
    greatest, place, other = longest_way(web)
    along = [place] + places_along(ends_of(web), first_way(web, place, other), place)
    near = steps_from(web, along[greatest // 2])
    far = steps_from(web, along[(greatest + 1) // 2])
    odd, even = [], []
    for name, one, two in web[1]:
        # How far out it lies from the middle of the longest way, which is a place, or a road that is itself 0.
        depth = (min(near[one], far[one]) + min(near[two], far[two]) + 1) // 2
        # News that goes inwards or outwards meets odd and even roads by turns, and so waits at every second place.
        if depth & 1:
            odd.append(name)
        else:
            even.append(name)
    return tuple(odd + even)


def least_slowest(web):
    """The least slowest days of all rotas of a web of one piece."""
    need_one_piece(web)
    if is_tree(web):
        return least_of_tree(web)
    if len(web[1]) > MOST_TRIED_ROADS:
        raise TooMany(f"there are {len(web[1])} roads")
    return least_tried(web)


def least_tried(web):
    """The least slowest days of all rotas of a web with a ring, of which those that are alike are tried once."""
    best = len(web[0])
    ends = numbered_ends(web)
    one, two = ring_of(web)[:2]
    for rota in unlike_rotas(web):
        # Backwards all days are those of the other way, so one of both is enough: that in which these two stand so.
        if rota.index(one) < rota.index(two):
            best = days_until_all([ends[name] for name in rota], len(web[0]), best)
    return best


def slow_paper(web, days):
    """The two places of longest_way, if by every rota news between them takes longer than so many days, else None."""
    need_tree(web)
    need_count(days, 0, MOST_DAYS)
    return None if least_of_tree(web) <= days else longest_way(web)[1:]


def slow_holds(web, days, thing):
    """Whether it is a tuple of two unlike places whose distance is at least twice the days."""
    need_tree(web)
    need_count(days, 0, MOST_DAYS)
    if not isinstance(thing, tuple) or len(thing) != 2:
        return False
    if not all([isinstance(one, str) and one in web[0] for one in thing]):
        return False
    place, other = thing
    return place != other and steps_from(web, place)[other] >= 2 * days


def kept_best(web, rota):
    """None for a rota of a tree with the least slowest days, else the first index at which an exchange makes them less.

    -1 if no exchange does.
    """
    need_tree(web)
    need_rota(web, rota)
    slowest_days = slowest_in(web, table_of(web, (rota,)))[0]
    if slowest_days == least_of_tree(web):
        return None
    for index in range(len(rota) - 1):
        if slowest_in(web, table_of(web, (swapped(rota, index),)))[0] < slowest_days:
            return index
    return -1


def is_row(web, thing):
    """Whether it is a list of as many integers or None as there are places."""
    if not isinstance(thing, list) or len(thing) != len(web[0]):
        return False
    return all([entry is None or is_whole(entry) for entry in thing])


def need_table(web, table):
    """Raises BadTable for what is no list of as many rows as there are places."""
    if not isinstance(table, list) or len(table) != len(web[0]) or not all([is_row(web, row) for row in table]):
        raise BadTable("this is no table of days of the web")


def target_rota(web, table):
    """The first rota of a tree, by the numbers of the roads, that has these days, None if there is none."""
    if table_fault(web, table) is not None:
        return None
    return rota_for(web, [told_order(web, table, place) for place in web[0]])


def table_fault(web, table):
    """The first (place, place) at which a table of days of a tree is wrong, None if a rota has these days."""
    need_tree(web)
    need_table(web, table)
    for place in web[0]:
        for other in web[0]:
            if is_wrong(web, table, place, other):
                return place, other
    for place in web[0]:
        ahead = [many for many, _ in roads_told_ahead(web, table, place)]
        # Where the orders told do not go round, no two roads have equally many ahead of them.
        if len(set(ahead)) < len(ahead):
            return place, place
    return None


def is_fall(web, table, place, other):
    """Whether the days from a place to another one, two roads from it, tell of a fall between."""
    return table[web[0].index(place)][web[0].index(other)] == 2


def is_wrong(web, table, place, other):
    """Whether the days from a place to another one are wrong, together with those back or with the falls told."""
    start, goal = web[0].index(place), web[0].index(other)
    there, back = table[start][goal], table[goal][start]
    if there is None or back is None:
        return True
    if place == other:
        return there != 0
    way = first_way(web, place, other)
    along = [place] + places_along(ends_of(web), way, place)
    falls = len([at for at in range(len(way) - 1) if is_fall(web, table, along[at], along[at + 2])])
    return there + back != len(way) + 1 or there != falls + 1


def roads_told_ahead(web, table, place):
    """The list of (how many roads are told to be ahead of it, road) of the roads at a place."""
    found = []
    for name, one in roads_at(web, place):
        ahead = [two for _, two in roads_at(web, place) if is_fall(web, table, one, two)]
        found.append((len(ahead), name))
    return found


def told_order(web, table, place):
    """The roads at a place in the sequence that the days tell."""
    return tuple([name for _, name in sorted(roads_told_ahead(web, table, place))])
