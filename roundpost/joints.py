"""Joined webs: places that hold a web together, blocks of roads, and rotas that are woven of two."""

from roundpost.counts import is_count
from roundpost.errors import BadJoin, BadTurns, TooMany
from roundpost.rotas import need_rota
from roundpost.spread import days_from
from roundpost.webs import (
    MOST_PLACES, MOST_ROADS, ends_of, first_way, need_place, need_road, need_web, pieces_of,
)


def without_place(web, place):
    """What is left of the web without a place and its roads."""
    places, roads = web
    return tuple([one for one in places if one != place]), tuple([road for road in roads if place not in road[1:]])


def cut_places(web):
    """The ascending tuple of the places without each of which alone others are joined by a way no more."""
    need_web(web)
    many = len(pieces_of(web))
    return tuple(sorted([place for place in web[0] if len(pieces_of(without_place(web, place))) > many]))


def block_tuples(web):
    """The list of the ascending tuples of the names of roads that belong together."""
    places = web[0]
    kept = []
    found = []
    for road in web[1]:
        name, near, far = road
        # A road that closes a ring with roads kept ahead of it joins their blocks; of such rings all others come.
        way = first_way((places, tuple(kept)), near, far)
        if way is None:
            kept.append(road)
            way = ()
        together = [block for block in found if any([one in block for one in way])]
        found = [block for block in found if block not in together]
        found.append(tuple(sorted([name] + [one for block in together for one in block])))
    return found


def blocks(web):
    """The ascending list of the ascending tuples of the names of roads that belong together by rings."""
    need_web(web)
    return sorted(block_tuples(web))


def block_ends(web, road):
    """The ascending tuple of the places at which the roads of a road's block have an end."""
    need_web(web)
    need_road(web, road)
    block = [names for names in block_tuples(web) if road in names][0]
    ends = ends_of(web)
    return tuple(sorted({place for name in block for place in ends[name]}))


def need_join(web, other, place):
    """Raises the error of the first of these that is not right."""
    need_web(web)
    need_web(other)
    common = [one for one in web[0] if one in other[0]]
    names = [road[0] for road in web[1]]
    if not isinstance(place, str) or common != [place] or any([road[0] in names for road in other[1]]):
        raise BadJoin("the webs are not joined by this place alone")


def joined(web, other):
    """The web with the places and roads of the first, and behind them those of the other that are not there."""
    places = web[0] + tuple([place for place in other[0] if place not in web[0]])
    roads = web[1] + other[1]
    if len(places) > MOST_PLACES or len(roads) > MOST_ROADS:
        raise TooMany(f"there are {len(places)} places and {len(roads)} roads")
    return places, roads


def joined_web(web, other, place):
    """The web that two webs make that have this place, and nothing else, in common."""
    need_join(web, other, place)
    return joined(web, other)


def need_weaving(web, other, place, rota, second, turns):
    """Raises the error of the first of these that is not right."""
    need_join(web, other, place)
    need_rota(web, rota)
    need_rota(other, second)
    if not isinstance(turns, tuple) or not all([is_count(turn, 0, 1) for turn in turns]):
        raise BadTurns("this is no tuple of 0 and 1")
    if turns.count(0) != len(rota) or turns.count(1) != len(second):
        raise BadTurns("these are not as many turns as there are roads")


def woven(rota, second, turns):
    """The names that are taken, turn by turn, from the first rota for 0 and from the second for 1."""
    rotas = (rota, second)
    taken = [0, 0]
    found = []
    for turn in turns:
        found.append(rotas[turn][taken[turn]])
        taken[turn] = taken[turn] + 1
    return tuple(found)


def woven_rota(web, other, place, rota, second, turns):
    """The rota of the joined web that takes its roads, turn by turn, from the rotas of both."""
    need_weaving(web, other, place, rota, second, turns)
    joined(web, other)
    return woven(rota, second, turns)


def across_days(web, other, place, rota, second, turns, start, goal):
    """The days from a place of the first web to one of the other by the woven rota, and how late they are."""
    need_weaving(web, other, place, rota, second, turns)
    need_place(web, start)
    need_place(other, goal)
    whole = joined(web, other)
    day = days_from(whole, (woven(rota, second, turns),), start)[whole[0].index(goal)]
    if day is None or place in (start, goal):
        return day, 0
    there = days_from(web, (rota,), start)[web[0].index(place)]
    onwards = days_from(other, (second,), place)[other[0].index(goal)]
    return day, day - there - onwards + 1
