"""What everybody knows: whose news is where, which walks teach somebody something, and which roads are needed."""

from roundpost.counts import need_count
from roundpost.errors import TooMany
from roundpost.rotas import need_rota
from roundpost.spread import spread
from roundpost.tables import known_behind, numbered_ends, table_of
from roundpost.webs import need_web, without_road
from roundpost.weeks import need_moment, need_week, round_of

MOST_DAYS = 200
MOST_WALKS = 2000


def known_at(web, week, moment):
    """The list, for each place, of the ascending tuple of the places whose news it has at the moment."""
    need_web(web)
    need_week(web, week)
    need_moment(week, moment)
    come = {place: spread(web, week, place, (1, 0)) for place in web[0]}
    found = []
    for other in web[0]:
        places = [place for place in web[0] if other in come[place] and come[place][other] <= moment]
        found.append(tuple(sorted(places)))
    return found


def all_known(web, week):
    """The least moment at which each place has all news, None if it never comes."""
    need_web(web)
    need_week(web, week)
    latest = (1, 0)
    for place in web[0]:
        come = spread(web, week, place, (1, 0))
        if len(come) < len(web[0]):
            return None
        latest = max([latest] + list(come.values()))
    return latest


def taught(web, week, count):
    """The list of (day, index in the round, road, learned) of all walks of so many days."""
    need_web(web)
    need_week(web, week)
    need_count(count, 0, MOST_DAYS)
    many = sum([len(round_of(week, day)) for day in range(1, count + 1)])
    if many > MOST_WALKS:
        raise TooMany(f"there are {many} walks on these days")
    ends = numbered_ends(web)
    known = [1 << at for at in range(len(web[0]))]
    found = []
    for day in range(1, count + 1):
        for index, name in enumerate(round_of(week, day)):
            near, far = ends[name]
            learned = []
            if known[near] != known[far]:
                learned = sorted(learned_by(web, known, near, far) + learned_by(web, known, far, near))
                known = known_behind([(near, far)], known)
            found.append((day, index, name, learned))
    return found


def learned_by(web, known, here, there):
    """The list of (place, place) of whose news the one place learns from the other, by what both know."""
    news = known[there] & ~known[here]
    return [(web[0][here], one) for at, one in enumerate(web[0]) if news >> at & 1]


def lessons(web, week, count):
    """The list of (day, index in the round, road, learned) of the walks by which somebody learns something."""
    return [walk for walk in taught(web, week, count) if walk[3]]


def idle_walks(web, week, count):
    """The list of (day, index in the round, road) of the walks by which nobody learns anything."""
    return [walk[:3] for walk in taught(web, week, count) if not walk[3]]


def needed_roads(web, rota):
    """The ascending tuple of the roads without each of which alone some news comes later or never."""
    need_web(web)
    need_rota(web, rota)
    table = table_of(web, (rota,))
    found = []
    for name in rota:
        rest = tuple([one for one in rota if one != name])
        # Without a road no news comes earlier, so days that are others are greater, or are no more.
        if table_of(without_road(web, name), (rest,)) != table:
            found.append(name)
    return tuple(sorted(found))
