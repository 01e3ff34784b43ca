"""Reports of days: the rotas that fit them, what they tell surely, what to ask next, and reports that are at fault."""

from itertools import combinations

from roundpost.alike import unlike_rotas
from roundpost.counts import is_count
from roundpost.errors import BadReports, BadRotas, TooMany
from roundpost.rotas import is_rota, need_rota
from roundpost.tables import is_day_in, known_each_day, numbered_ends, table_of
from roundpost.webs import need_tree, need_web, roads_at

MOST_REPORTS = 30
MOST_DAYS = 100
MOST_TRIED_ROADS = 6
MOST_TRIED_REPORTS = 10


def is_report(web, thing):
    """Whether it is a tuple of two places and a number of days."""
    if not isinstance(thing, tuple) or len(thing) != 3:
        return False
    place, other, day = thing
    if not isinstance(place, str) or not isinstance(other, str):
        return False
    return place in web[0] and other in web[0] and is_count(day, 0, MOST_DAYS)


def need_reports(web, reports):
    """Raises BadReports for what is no tuple of at most thirty reports."""
    if not isinstance(reports, tuple) or len(reports) > MOST_REPORTS:
        raise BadReports("this is no tuple of so few reports")
    if not all([is_report(web, report) for report in reports]):
        raise BadReports("these are no reports of the web")


def need_few_roads(web):
    """Raises TooMany for a web of more roads than all rotas are tried of."""
    if len(web[1]) > MOST_TRIED_ROADS:
        raise TooMany(f"there are {len(web[1])} roads")


def numbered_reports(web, reports):
    """The list of the reports, their places told by their numbers."""
    return [(web[0].index(place), web[0].index(other), day) for place, other, day in reports]


def are_met(ends, many, rota, numbered):
    """The list, for each of the reports, of whether it has the days of a rota of roads with these ends."""
    known = known_each_day([[ends[name] for name in rota]], many)
    return [is_day_in(known, start, goal, day) for start, goal, day in numbered]


def first_fitting(web, reports):
    """The list of the first of all alike rotas that fit the reports."""
    numbered = numbered_reports(web, reports)
    ends, many = numbered_ends(web), len(web[0])
    return [rota for rota in unlike_rotas(web) if all(are_met(ends, many, rota, numbered))]


def fitting_rotas(web, reports):
    """The ascending list of the first of all alike rotas that fit the reports."""
    need_web(web)
    need_reports(web, reports)
    need_few_roads(web)
    return sorted(first_fitting(web, reports))


def fits(web, rota, reports):
    """Whether the days of a rota are those of the reports."""
    need_web(web)
    need_rota(web, rota)
    need_reports(web, reports)
    return all(are_met(numbered_ends(web), len(web[0]), rota, numbered_reports(web, reports)))


def sure_orders(web, reports):
    """The ascending list of (place, road, road), the first ahead of the second in every rota that fits.

    None if no rota fits.
    """
    need_tree(web)
    need_reports(web, reports)
    need_few_roads(web)
    fitting = first_fitting(web, reports)
    if not fitting:
        return None
    pairs = []
    for place in web[0]:
        names = [name for name, _ in roads_at(web, place)]
        pairs.extend([(place, one, two) for one in names for two in names if one != two])
    for rota in fitting:
        pairs = [pair for pair in pairs if rota.index(pair[1]) < rota.index(pair[2])]
    return sorted(pairs)


def parting_pair(web, rota, other):
    """The first (place, place) between which the days of two rotas are not the same, None if all are."""
    need_web(web)
    need_rota(web, rota)
    need_rota(web, other)
    first, second = table_of(web, (rota,)), table_of(web, (other,))
    for at, place in enumerate(web[0]):
        for to, goal in enumerate(web[0]):
            if first[at][to] != second[at][to]:
                return place, goal
    return None


def need_rotas(web, rotas):
    """Raises BadRotas for what is no list or tuple of two or more rotas of the web."""
    if not isinstance(rotas, (list, tuple)) or len(rotas) < 2:
        raise BadRotas("this is no list or tuple of two or more")
    if not all([is_rota(web, rota) for rota in rotas]):
        raise BadRotas("these are no rotas of the web")


def best_question(web, rotas):
    """The first two places whose days part the rotas into groups of which the greatest is least, and the groups."""
    need_web(web)
    need_rotas(web, rotas)
    tables = [table_of(web, (rota,)) for rota in rotas]
    places = web[0]
    best = (places[0], places[0], [(0, len(rotas))])
    least = len(rotas) + 1
    for at, place in enumerate(places):
        for to, other in enumerate(places):
            if at != to:
                groups = groups_of([table[at][to] for table in tables])
                greatest = max([many for _, many in groups])
                if greatest < least:
                    least = greatest
                    best = (place, other, groups)
    return best


def groups_of(days):
    """The ascending list of (days, how often), None ahead of integers."""
    counts = {}
    for day in days:
        counts[day] = counts.get(day, 0) + 1
    ahead = [(None, counts[None])] if None in counts else []
    return ahead + sorted([(day, many) for day, many in counts.items() if day is not None])


def fault_of(web, reports):
    """The fewest reports that no rota fits, as the first ascending tuple of their indexes, None if a rota fits all."""
    need_tree(web)
    need_reports(web, reports)
    need_few_roads(web)
    if len(reports) > MOST_TRIED_REPORTS:
        raise TooMany(f"there are {len(reports)} reports")
    numbered = numbered_reports(web, reports)
    # For each rota, by bits, which reports it does not meet: reports are at fault if each rota fails one of them.
    failed = {}
    ends = numbered_ends(web)
    for rota in unlike_rotas(web):
        met = are_met(ends, len(web[0]), rota, numbered)
        failed[sum([1 << at for at in range(len(met)) if not met[at]])] = True
    for many in range(len(reports) + 1):
        for chosen in combinations(range(len(reports)), many):
            bits = sum([1 << at for at in chosen])
            if all([bits & one for one in failed]):
                return chosen
    return None
