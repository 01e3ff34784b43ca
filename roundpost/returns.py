"""Days there and back: the turns of ways, what rotas save, sums of days, and answers."""

from roundpost.errors import BadWay
from roundpost.rotas import need_rota
from roundpost.spread import spread
from roundpost.tables import days_between, numbered_rounds, table_of
from roundpost.webs import ends_of, need_one_piece, need_place, need_web, places_along, steps_from
from roundpost.weeks import need_moment, need_week


def is_way(web, thing):
    """Whether it is a way of the web: names of roads that can be gone one behind the other from some place."""
    if not isinstance(thing, tuple):
        return False
    ends = ends_of(web)
    if not all([isinstance(name, str) and name in ends for name in thing]):
        return False
    if not thing:
        return True
    return any([places_along(ends, thing, start) is not None for start in ends[thing[0]]])


def need_way(web, way):
    """Raises BadWay for what is no way of the web."""
    if not is_way(web, way):
        raise BadWay("this is no way of the web")


def turns(web, rota, way):
    """How often the next road of a way has a greater rank, and how often it has not."""
    need_web(web)
    need_rota(web, rota)
    need_way(web, way)
    places = [rota.index(name) for name in way]
    rises = len([at for at in range(1, len(places)) if places[at] > places[at - 1]])
    # Who goes back along the same road waits for its next walk, as at a lesser rank.
    return rises, max(len(places) - 1, 0) - rises


def way_days(web, rota, way):
    """The day on which news of the dawn comes along a way, 0 for the empty one."""
    falls = turns(web, rota, way)[1]
    return 1 + falls if way else 0


def there_and_back(web, rota, place, other):
    """The days there, the days back and the distance of two places, None for each that is not."""
    need_web(web)
    need_rota(web, rota)
    need_place(web, place)
    need_place(web, other)
    steps = steps_from(web, place).get(other)
    if steps is None:
        return None, None, None
    ends = numbered_rounds(web, (rota,))[0]
    start, goal = web[0].index(place), web[0].index(other)
    return days_between(ends, start, goal), days_between(ends, goal, start), steps


def pairs_of(web):
    """The list of (place, other, their distance) of all two unlike places of a web of one piece, each two once."""
    found = []
    for at, place in enumerate(web[0]):
        steps = steps_from(web, place)
        found.extend([(place, other, steps[other]) for other in web[0][at + 1:]])
    return found


def saved(web, rota):
    """The list of (place, other, saving) of the two places whose days together are less than in a tree."""
    need_one_piece(web)
    need_rota(web, rota)
    table = table_of(web, (rota,))
    numbers = {place: at for at, place in enumerate(web[0])}
    found = []
    for place, other, steps in pairs_of(web):
        start, goal = numbers[place], numbers[other]
        saving = steps + 1 - table[start][goal] - table[goal][start]
        if saving > 0:
            found.append((place, other, saving))
    return found


def all_days(web, rota):
    """The sum of all days between two unlike places, both ways."""
    need_one_piece(web)
    need_rota(web, rota)
    return sum([sum(row) for row in table_of(web, (rota,))])


def tree_sum(web):
    """The sum of one more than the distance, over all two unlike places, each two once."""
    need_one_piece(web)
    return sum([steps + 1 for _, _, steps in pairs_of(web)])


def answer_moment(web, week, place, other, moment):
    """The moment from which on an answer is at the first place, None if question or answer never comes."""
    need_web(web)
    need_week(web, week)
    need_place(web, place)
    need_place(web, other)
    need_moment(week, moment)
    asked = spread(web, week, place, moment)
    if other not in asked:
        return None
    # Roads lead both ways, so that an answer comes wherever the question came.
    return spread(web, week, other, asked[other])[place]
