"""Demands: what orders cost, which turns they weigh upon, and the orders that cost least."""

from roundpost.alike import ordered
from roundpost.counts import is_count
from roundpost.errors import BadDemands, TooMany
from roundpost.rotas import need_rota, swapped
from roundpost.tables import table_of
from roundpost.webs import ends_of, first_way, need_place, need_tree, need_web, places_along, roads_at

MOST_DEMANDS = 40
MOST_WEIGHT = 1000000
MOST_TRIED_ROADS = 6
LEAST_RING = 3


def is_demand(web, thing):
    """Whether it is a tuple of two unlike places and a weight."""
    if not isinstance(thing, tuple) or len(thing) != 3:
        return False
    place, other, weight = thing
    if not isinstance(place, str) or not isinstance(other, str) or not is_count(weight, 1, MOST_WEIGHT):
        return False
    return place in web[0] and other in web[0] and place != other


def need_demands(web, demands):
    """Raises BadDemands for what is no tuple of at most forty demands, none from and to the same places as another."""
    if not isinstance(demands, tuple) or len(demands) > MOST_DEMANDS:
        raise BadDemands("this is no tuple of so few demands")
    if not all([is_demand(web, demand) for demand in demands]):
        raise BadDemands("these are no demands of the web")
    if len({demand[:2] for demand in demands}) < len(demands):
        raise BadDemands("two of these are from the same place to the same other one")


def need_tree_demands(web, demands):
    """Raises the error of the first of these that is not right."""
    need_tree(web)
    need_demands(web, demands)


def cost_in(web, rota, demands):
    """The sum of each weight times its days, None if one of these is never."""
    table = table_of(web, (rota,))
    numbers = {place: at for at, place in enumerate(web[0])}
    days = [table[numbers[place]][numbers[other]] for place, other, _ in demands]
    if None in days:
        return None
    return sum([demand[2] * day for demand, day in zip(demands, days)])


def cost_of(web, rota, demands):
    """The sum of each weight times the days from its first to its second place, None if news of one never comes."""
    need_web(web)
    need_rota(web, rota)
    need_demands(web, demands)
    return cost_in(web, rota, demands)


def weights_of(web, demands):
    """The dict of the weight of each (place, road, road) by which demands come and leave."""
    ends = ends_of(web)
    found = {}
    for place, other, weight in demands:
        way = first_way(web, place, other)
        for at, here in enumerate(places_along(ends, way, place)[:-1]):
            turn = (here, way[at], way[at + 1])
            found[turn] = found.get(turn, 0) + weight
    return found


def turn_weights(web, demands):
    """The ascending list of (place, road, road, weight) of the turns by which demands go."""
    need_tree_demands(web, demands)
    return sorted([(*turn, weight) for turn, weight in weights_of(web, demands).items()])


def names_at(web, place):
    """The list of the names of the roads at a place, as they stand in the web."""
    return [name for name, _ in roads_at(web, place)]


def need_few_roads(web, place):
    """Raises TooMany for a place with more roads than all sequences are tried of."""
    many = len(roads_at(web, place))
    if many > MOST_TRIED_ROADS:
        raise TooMany(f"there are {many} roads at a place")


def best_at(web, weights, place):
    """The least sum of the weights that sequences of the roads at a place lose, and the list of those that have it."""
    names = names_at(web, place)
    # For each set of roads that stand first, told by bits, what they lose at least, and the sequences that do.
    found = {0: (0, [()])}
    for _ in names:
        longer = {}
        for bits, (lost, orders) in found.items():
            for at, name in enumerate(names):
                if bits >> at & 1 == 0:
                    ahead = [one for number, one in enumerate(names) if bits >> number & 1]
                    more = lost + sum([weights.get((place, name, one), 0) for one in ahead])
                    add_orders(longer, bits | 1 << at, more, [(*order, name) for order in orders])
        found = longer
    return list(found.values())[0]


def add_orders(found, bits, lost, orders):
    """Puts the sequences of a set of roads among those found, if none that is found loses less."""
    if bits not in found or lost < found[bits][0]:
        found[bits] = (lost, orders)
    elif lost == found[bits][0]:
        found[bits] = (lost, found[bits][1] + orders)


def place_best(web, demands, place):
    """The least that the sequences of the roads at a place lose, and the ascending list of those that lose it."""
    need_tree_demands(web, demands)
    need_place(web, place)
    need_few_roads(web, place)
    lost, orders = best_at(web, weights_of(web, demands), place)
    return lost, sorted(orders)


def best_of_places(web, demands):
    """The list, for each place, of the least that is lost at it and the sequences that lose it."""
    need_tree_demands(web, demands)
    for place in web[0]:
        need_few_roads(web, place)
    weights = weights_of(web, demands)
    return [best_at(web, weights, place) for place in web[0]]


def sum_of_weights(demands):
    """The sum of all weights, which every rota costs."""
    return sum([weight for _, _, weight in demands])


def best_cost(web, demands):
    """The least cost of all rotas of a tree."""
    lost = sum([least for least, _ in best_of_places(web, demands)])
    return sum_of_weights(demands) + lost


def best_for(web, demands):
    """A rota of a tree with the least cost."""
    # In a tree there is a rota for all local orders.
    return ordered(web, [orders[0] for _, orders in best_of_places(web, demands)])[0]


def bound_at(web, weights, place):
    """The sum of the lesser of the two turn weights of all two roads at a place."""
    names = names_at(web, place)
    lesser = []
    for at, name in enumerate(names):
        for one in names[:at]:
            lesser.append(min(weights.get((place, name, one), 0), weights.get((place, one, name), 0)))
    return sum(lesser)


def pair_bound(web, demands):
    """The sum of all weights and of the lesser turn weights, which is at most the least cost."""
    need_tree_demands(web, demands)
    weights = weights_of(web, demands)
    return sum_of_weights(demands) + sum([bound_at(web, weights, place) for place in web[0]])


def is_ahead(weights, place, one, two):
    """Whether more comes to the place by the first road and leaves by the second than the other way."""
    return weights.get((place, one, two), 0) > weights.get((place, two, one), 0)


def demand_ring(web, demands, place):
    """A tuple of roads at a place each of which would stand ahead of the next, the last ahead of the first.

    None if the roads stand so that of all two of them only the lesser turn weight is lost.
    """
    need_tree_demands(web, demands)
    need_place(web, place)
    weights = weights_of(web, demands)
    left = names_at(web, place)
    while True:
        held = [name for name in left if any([is_ahead(weights, place, one, name) for one in left])]
        if len(held) == len(left):
            break
        left = held
    if not left:
        return None
    # Each road that is left has another one of them ahead, so that going on so comes to some road again.
    found = left[:1]
    while True:
        name = [one for one in left if is_ahead(weights, place, one, found[-1])][0]
        if name in found:
            return tuple(reversed(found[found.index(name):]))
        found.append(name)


def demand_ring_holds(web, demands, place, thing):
    """Whether it is a tuple of roads at a place each of which would stand ahead of the next, and so round."""
    need_tree_demands(web, demands)
    need_place(web, place)
    names = names_at(web, place)
    if not isinstance(thing, tuple) or not LEAST_RING <= len(thing) <= len(names):
        return False
    if not all([isinstance(name, str) and name in names for name in thing]) or len(set(thing)) < len(thing):
        return False
    weights = weights_of(web, demands)
    return all([is_ahead(weights, place, thing[at - 1], thing[at]) for at in range(len(thing))])


def cheaper_swap(web, rota, demands):
    """The first index at which an exchange makes the cost less, None if none does."""
    cost = cost_of(web, rota, demands)
    if cost is None:
        return None
    for index in range(len(rota) - 1):
        if cost_in(web, swapped(rota, index), demands) < cost:
            return index
    return None
