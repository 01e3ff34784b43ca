"""Orders that are alike: local orders, the rotas that have them, and exchanges of neighbours."""

from roundpost.counts import is_count
from roundpost.errors import BadOrders
from roundpost.rotas import need_index, need_rota, swapped
from roundpost.tables import table_of
from roundpost.webs import are_unlike_roads, ends_of, need_web, roads_at


def orders_of(web, rota):
    """The list of the tuples of the roads at each place, as they stand in the rota."""
    found = []
    for place in web[0]:
        names = [name for name, _ in roads_at(web, place)]
        found.append(tuple([name for name in rota if name in names]))
    return found


def local_orders(web, rota):
    """The list, in the sequence of the places, of the tuples of the roads at each, as they stand in the rota."""
    need_web(web)
    need_rota(web, rota)
    return orders_of(web, rota)


def need_two_rotas(web, rota, other):
    """Raises the error of the first of these that is not right."""
    need_web(web)
    need_rota(web, rota)
    need_rota(web, other)


def are_alike(web, rota, other):
    """Whether two rotas have the same local orders."""
    need_two_rotas(web, rota, other)
    return orders_of(web, rota) == orders_of(web, other)


def roads_ahead(web, orders):
    """The dict of the list of the roads that stand, at some place, ahead of each."""
    ahead = {road[0]: [] for road in web[1]}
    for names in orders:
        for at, name in enumerate(names):
            ahead[name].extend(names[:at])
    return ahead


def ordered(web, orders):
    """The first order of roads that keeps local orders, and the roads for which there is no place in it."""
    ahead = roads_ahead(web, orders)
    left = [road[0] for road in web[1]]
    rota = []
    while left:
        free = [name for name in left if not any([one in left for one in ahead[name]])]
        if not free:
            return tuple(rota), left
        rota.append(free[0])
        left.remove(free[0])
    return tuple(rota), left


def first_alike(web, rota):
    """The first of the rotas that are alike to this one, by the numbers of the roads."""
    return ordered(web, local_orders(web, rota))[0]


def count_alike(web, rota):
    """How many rotas are alike to this one, itself among them."""
    ahead = roads_ahead(web, local_orders(web, rota))
    # How many orders there are of each set of roads that may come first, told by a bit for each of its roads.
    counts = {0: 1}
    for _ in rota:
        longer = {}
        for bits, many in counts.items():
            for at, name in enumerate(rota):
                # The roads ahead of this one stand ahead of it in the rota, so their bits are known by its indexes.
                needed = sum([1 << index for index in range(at) if rota[index] in ahead[name]])
                if bits & (1 << at) == 0 and bits & needed == needed:
                    longer[bits | 1 << at] = longer.get(bits | 1 << at, 0) + many
        counts = longer
    return sum(list(counts.values()))


def unlike_rotas(web):
    """The list of the first rotas of all that are alike, by the numbers of the roads."""
    roads = web[1]
    apart = []
    for _, near, far in roads:
        free = [at for at, (_, one, two) in enumerate(roads) if near not in (one, two) and far not in (one, two)]
        apart.append(sum([1 << at for at in free]))
    # With each beginning of a rota go, by bits, its roads, and those that could stand ahead of a later number in it.
    found = [((), 0, 0)]
    for _ in roads:
        longer = []
        for names, used, barred in found:
            for at, road in enumerate(roads):
                if (used | barred) >> at & 1 == 0:
                    longer.append(((*names, road[0]), used | 1 << at, apart[at] & (barred | (1 << at) - 1)))
        found = longer
    return [names for names, _, _ in found]


def exchanges(web, rota, other):
    """A list of indexes at which exchanges of neighbours lead from the one rota to the other, None if none does."""
    if not are_alike(web, rota, other):
        return None
    here = list(rota)
    found = []
    for goal, name in enumerate(other):
        # The roads that it passes have no place in common with it, as they stand behind it in an alike rota.
        indexes = list(range(here.index(name) - 1, goal - 1, -1))
        here.remove(name)
        here.insert(goal, name)
        found.extend(indexes)
    return found


def exchanges_hold(web, rota, other, thing):
    """Whether it is a list of indexes at which exchanges of neighbours lead from the one rota to the other."""
    need_two_rotas(web, rota, other)
    if not isinstance(thing, list) or not all([is_count(index, 0, len(rota) - 2) for index in thing]):
        return False
    ends = ends_of(web)
    here = rota
    for index in thing:
        near, far = ends[here[index]]
        if near in ends[here[index + 1]] or far in ends[here[index + 1]]:
            return False
        here = swapped(here, index)
    return here == other


def are_orders(web, thing):
    """Whether it is a list of local orders: for each place the tuple of all roads at it, each once."""
    places = web[0]
    if not isinstance(thing, list) or len(thing) != len(places):
        return False
    if not all([are_unlike_roads(web, names) for names in thing]):
        return False
    wanted = [sorted([name for name, _ in roads_at(web, place)]) for place in places]
    return [sorted(names) for names in thing] == wanted


def need_orders(web, orders):
    """Raises BadOrders for what is no list of local orders of the web."""
    if not are_orders(web, orders):
        raise BadOrders("these are no local orders of the web")


def rota_for(web, orders):
    """The first rota, by the numbers of the roads, that has these local orders, None if there is none."""
    need_web(web)
    need_orders(web, orders)
    rota, left = ordered(web, orders)
    return None if left else rota


def order_ring(web, orders):
    """A tuple of roads each ahead of the next at some place, the last ahead of the first; None if a rota has them."""
    need_web(web)
    need_orders(web, orders)
    left = ordered(web, orders)[1]
    if not left:
        return None
    ahead = roads_ahead(web, orders)
    # Each road that is left has another one of them ahead, so that going on so comes to some road again.
    found = left[:1]
    while True:
        name = [one for one in ahead[found[-1]] if one in left][0]
        if name in found:
            return tuple(reversed(found[found.index(name):]))
        found.append(name)


def order_ring_holds(web, orders, thing):
    """Whether it is a tuple of roads each ahead of the next at some place, the last ahead of the first."""
    need_web(web)
    need_orders(web, orders)
    if not are_unlike_roads(web, thing) or len(thing) < 2:
        return False
    ahead = roads_ahead(web, orders)
    return all([thing[at - 1] in ahead[thing[at]] for at in range(len(thing))])


def swap_days(web, rota, index):
    """The list of (place, other, how much greater) of the days that an exchange at the index makes others."""
    need_web(web)
    need_rota(web, rota)
    need_index(web, index)
    places = web[0]
    earlier = table_of(web, (rota,))
    later = table_of(web, (swapped(rota, index),))
    found = []
    for at, place in enumerate(places):
        for to, other in enumerate(places):
            if earlier[at][to] != later[at][to]:
                found.append((place, other, later[at][to] - earlier[at][to]))
    return found
