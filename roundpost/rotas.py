"""Rotas, the orders in which all roads of a web are walked each day, and the walks between two moments."""

from roundpost.counts import is_count, need_count
from roundpost.errors import BadIndex, BadRanks, BadRota, TooMany
from roundpost.webs import are_unlike_roads, need_web
from roundpost.weeks import need_moment, need_week, round_of

MOST_WALKS = 500


def is_rota(web, thing):
    """Whether it is a rota of the web: a tuple of the names of all its roads, each once."""
    return are_unlike_roads(web, thing) and len(thing) == len(web[1])


def need_rota(web, rota):
    """Raises BadRota for what is no rota of the web."""
    if not is_rota(web, rota):
        raise BadRota("this is no rota of the web")


def need_index(web, index):
    """Raises BadIndex for what is no index of a rota behind which a further road stands."""
    if not is_count(index, 0, len(web[1]) - 2):
        raise BadIndex("this is no index of two neighbours of a rota")


def swapped(rota, index):
    """The rota with the roads at the index and next behind it exchanged."""
    return rota[:index] + (rota[index + 1], rota[index]) + rota[index + 2:]


def ranks(web, rota):
    """The tuple of the ranks of the web's roads, in the web's sequence."""
    need_web(web)
    need_rota(web, rota)
    return tuple([rota.index(road[0]) for road in web[1]])


def are_ranks(web, thing):
    """Whether it is a tuple of all ranks of the web's roads, each once."""
    many = len(web[1])
    if not isinstance(thing, tuple) or len(thing) != many:
        return False
    return all([is_count(rank, 0, many - 1) for rank in thing]) and len(set(thing)) == many


def rota_of(web, ranks):
    """The rota in which the web's roads have these ranks."""
    need_web(web)
    if not are_ranks(web, ranks):
        raise BadRanks("these are no ranks of the web's roads")
    return tuple([web[1][ranks.index(rank)][0] for rank in range(len(ranks))])


def turned_rota(web, rota, count):
    """The rota that begins behind so many of its roads, which stand at its end in their sequence."""
    need_web(web)
    need_rota(web, rota)
    need_count(count, 0, len(rota))
    return rota[count:] + rota[:count]


def backwards(web, rota):
    """The rota with its roads in the other sequence."""
    need_web(web)
    need_rota(web, rota)
    return rota[::-1]


def walks_ahead(week, moment):
    """How many walks lie ahead of a moment, from day 1 on."""
    day, walks = moment
    weeks, rest = divmod(day - 1, len(week))
    return weeks * sum([len(names) for names in week]) + sum([len(names) for names in week[:rest]]) + walks


def walks_between(web, week, moment, other):
    """The list of (day, index in the round, road) of the walks behind the first moment and not behind the other."""
    need_web(web)
    need_week(web, week)
    need_moment(week, moment)
    need_moment(week, other)
    many = walks_ahead(week, other) - walks_ahead(week, moment)
    if many > MOST_WALKS:
        raise TooMany(f"there are {many} walks between these moments")
    found = []
    day, index = moment
    # Counted walks end the loop, so that it does not go through the days of a week in which nothing is walked.
    while len(found) < many:
        names = round_of(week, day)
        if index < len(names):
            found.append((day, index, names[index]))
            index = index + 1
        else:
            day, index = day + 1, 0
    return found
