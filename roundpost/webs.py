"""Webs of places and roads: what they are, their ways, their pieces and their rings."""

from roundpost.errors import BadPieces, BadPlace, BadRoad, BadTree, BadWeb

MOST_SIGNS = 8
MOST_PLACES = 10
MOST_ROADS = 14


def is_name(thing):
    """Whether it is a name, of a place or of a road."""
    if not isinstance(thing, str) or not 1 <= len(thing) <= MOST_SIGNS:
        return False
    return thing.isascii() and thing.isalnum() and thing.islower() and thing[0].isalpha()


def are_places(thing):
    """Whether it is what may stand first in a web."""
    if not isinstance(thing, tuple) or not 1 <= len(thing) <= MOST_PLACES:
        return False
    return all([is_name(place) for place in thing]) and len(set(thing)) == len(thing)


def is_road_between(places, thing):
    """Whether it is a road that joins two unlike ones of these places."""
    if not isinstance(thing, tuple) or len(thing) != 3:
        return False
    name, near, far = thing
    # Objects of other kinds are kept from ==, which they may define as they like.
    if not isinstance(near, str) or not isinstance(far, str):
        return False
    return is_name(name) and near in places and far in places and near != far


def are_roads_between(places, thing):
    """Whether it is what may stand second in a web of these places."""
    if not isinstance(thing, tuple) or len(thing) > MOST_ROADS:
        return False
    if not all([is_road_between(places, road) for road in thing]):
        return False
    return len({road[0] for road in thing}) == len(thing)


def is_web(thing):
    """Whether it is a web: a tuple of its places and of its roads."""
    if not isinstance(thing, tuple) or len(thing) != 2:
        return False
    places, roads = thing
    return are_places(places) and are_roads_between(places, roads)


def need_web(web):
    """Raises BadWeb for what is no web."""
    if not is_web(web):
        raise BadWeb("this is no web")


def need_place(web, place):
    """Raises BadPlace for what is no place of the web."""
    if not isinstance(place, str) or place not in web[0]:
        raise BadPlace("this is no place of the web")


def need_road(web, road):
    """Raises BadRoad for what is no name of a road of the web."""
    if not isinstance(road, str) or road not in [name for name, _, _ in web[1]]:
        raise BadRoad("this is no road of the web")


def need_one_piece(web):
    """Raises BadWeb for what is no web, BadPieces for a web of several pieces."""
    need_web(web)
    if not has_one_piece(web):
        raise BadPieces("this web has several pieces")


def need_tree(web):
    """Raises BadWeb for what is no web, BadTree for a web that is no tree."""
    if not is_tree(web):
        raise BadTree("this web is no tree")


def are_unlike_roads(web, thing):
    """Whether it is a tuple of names of roads of the web, none twice."""
    names = [road[0] for road in web[1]]
    if not isinstance(thing, tuple) or len(thing) > len(names):
        return False
    if not all([isinstance(name, str) and name in names for name in thing]):
        return False
    return len(set(thing)) == len(thing)


def ends_of(web):
    """The dict of the two places of each road."""
    return {name: (near, far) for name, near, far in web[1]}


def without_road(web, name):
    """The web without the road of this name."""
    places, roads = web
    return places, tuple([road for road in roads if road[0] != name])


def roads_at(web, place):
    """The list of (road, place at its other end) of the roads at a place, as they stand in the web."""
    found = []
    for name, near, far in web[1]:
        if near == place:
            found.append((name, far))
        if far == place:
            found.append((name, near))
    return found


def beside(web):
    """The dict of the list, for each place, of (road, place at its other end) of the roads at it."""
    found = {place: [] for place in web[0]}
    for name, near, far in web[1]:
        found[near].append((name, far))
        found[far].append((name, near))
    return found


def steps_from(web, place):
    """The dict of the distances of all places that a way joins with this one."""
    roads = beside(web)
    steps = {place: 0}
    border = [place]
    while border:
        beyond = []
        for here in border:
            for _, there in roads[here]:
                if there not in steps:
                    steps[there] = steps[here] + 1
                    beyond.append(there)
        border = beyond
    return steps


def has_one_piece(web):
    """Whether ways join all places of a web."""
    return len(steps_from(web, web[0][0])) == len(web[0])


def places_along(ends, names, start):
    """The places to which the roads lead, one behind the other, from start; None if they do not."""
    here = start
    come_to = []
    for name in names:
        near, far = ends[name]
        if here != near and here != far:
            return None
        here = far if here == near else near
        come_to.append(here)
    return come_to


def distance(web, place, other):
    """The number of roads in a shortest way between two places, None if there is no way."""
    need_web(web)
    need_place(web, place)
    need_place(web, other)
    return steps_from(web, place).get(other)


def way_of(web, place, other):
    """The first of the shortest ways from place to other by the numbers of their roads, None if there is none."""
    need_web(web)
    need_place(web, place)
    need_place(web, other)
    return first_way(web, place, other)


def first_way(web, place, other):
    """What way_of returns, of a web and places of it."""
    left = steps_from(web, other)
    if place not in left:
        return None
    roads = beside(web)
    way = []
    here = place
    while here != other:
        # All shortest ways are equally long, so the first of them begins with the first road that is on one.
        nearer = [step for step in roads[here] if left[step[1]] < left[here]]
        name, here = nearer[0]
        way.append(name)
    return tuple(way)


def pieces(web):
    """The ascending list of the pieces, each the ascending tuple of its places."""
    need_web(web)
    return pieces_of(web)


def pieces_of(web):
    """What pieces returns, also of what has no places at all."""
    found = []
    for place in web[0]:
        if not any([place in piece for piece in found]):
            found.append(tuple(sorted(steps_from(web, place))))
    return sorted(found)


def is_tree(web):
    """Whether a web has one piece and one road fewer than places."""
    need_web(web)
    return len(web[1]) == len(web[0]) - 1 and has_one_piece(web)


def longest_way(web):
    """The greatest distance and the first two places that have it, for a web of one piece."""
    need_one_piece(web)
    places = web[0]
    longest = (0, places[0], places[0])
    for place in places:
        steps = steps_from(web, place)
        for other in places:
            if steps[other] > longest[0]:
                longest = (steps[other], place, other)
    return longest


def ring_of(web):
    """A ring of the web, None if there is none."""
    need_web(web)
    for name, near, far in web[1]:
        # A shortest way comes to no place twice, so it makes a ring with the road that it does not use.
        back = first_way(without_road(web, name), far, near)
        if back is not None:
            return (name,) + back
    return None


def ring_holds(web, thing):
    """Whether it is a ring of the web."""
    need_web(web)
    if not are_unlike_roads(web, thing) or len(thing) < 2:
        return False
    ends = ends_of(web)
    near, far = ends[thing[0]]
    return goes_round(ends, thing, near) or goes_round(ends, thing, far)


def goes_round(ends, names, start):
    """Whether the roads lead, one behind the other, from start back to it, to no place twice."""
    come_to = places_along(ends, names, start)
    if come_to is None or come_to[-1] != start:
        return False
    return len(set(come_to)) == len(come_to)
