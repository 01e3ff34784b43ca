"""Letters: one from each place of a tree to each other one, how many a walk carries, and when they come home."""

from roundpost.alike import unlike_rotas
from roundpost.counts import is_count
from roundpost.errors import BadDay, TooMany
from roundpost.rotas import need_rota
from roundpost.spread import spread
from roundpost.tables import known_each_day, numbered_ends, numbered_rounds, table_of
from roundpost.webs import need_road, need_tree, steps_from, without_road

LAST_DAY = 1000
MOST_TRIED_ROADS = 6


def need_posted(web, rota):
    """Raises the error of the first of these that is not right."""
    need_tree(web)
    need_rota(web, rota)


def need_day(day):
    """Raises BadDay for what is no day on which letters are counted."""
    if not is_count(day, 1, LAST_DAY):
        raise BadDay("this is no day on which letters are counted")


def sides_of(web):
    """The dict, for each road of a tree, of (number here, number beyond, places on this side, how many beyond).

    Each road has two of these, that of the end with the lesser number first; the places on a side are told by bits.
    """
    places = web[0]
    found = {}
    for name, near, far in web[1]:
        held = steps_from(without_road(web, name), near)
        at, to = places.index(near), places.index(far)
        near_bits = sum([1 << number for number, place in enumerate(places) if place in held])
        far_bits = (1 << len(places)) - 1 - near_bits
        sides = [(at, to, near_bits, len(places) - len(held)), (to, at, far_bits, len(held))]
        found[name] = sorted(sides)
    return found


def how_many(bits):
    """How many bits are set."""
    many = 0
    left = bits
    while left:
        left = left & (left - 1)
        many = many + 1
    return many


def loads(sides, known, day):
    """The list of (number here, letters) that a road's walk of a day carries from each of its ends."""
    found = []
    for here, beyond, held, many in sides:
        # Who has sent a letter over the road by now is known at its other end.
        gone = known[day][beyond] & ~known[day - 1][beyond] & held
        if gone:
            found.append((here, how_many(gone) * many))
    return found


def days_known(web, rota):
    """What the places know at the end of each day, as long as anything is learned."""
    return known_each_day(numbered_rounds(web, (rota,)), len(web[0]))


def carried_on(web, rota, sides, known, day):
    """The list of (index, road, place, letters) of what is carried on one of the days on which places learn."""
    found = []
    for index, name in enumerate(rota):
        found.extend([(index, name, web[0][here], many) for here, many in loads(sides[name], known, day)])
    return found


def carried(web, rota, day):
    """The list of (index, road, place, letters) of what is carried on a day, from which end of each road."""
    need_posted(web, rota)
    need_day(day)
    known = days_known(web, rota)
    return carried_on(web, rota, sides_of(web), known, day) if day < len(known) else []


def still_out(web, rota, day):
    """How many letters are not at their goals at the end of a day."""
    home = sum(come_home(web, rota, day))
    return len(web[0]) * (len(web[0]) - 1) - home


def come_home(web, rota, day):
    """The list, for each place, of how many letters have come to it by the end of a day."""
    need_posted(web, rota)
    need_day(day)
    known = days_known(web, rota)
    # What a place knows of itself came by no letter.
    return [how_many(bits) - 1 for bits in known[min(day, len(known) - 1)]]


def road_letters(web, road):
    """How many letters go over a road in all, from the end with the lesser number and from the other one."""
    need_tree(web)
    need_road(web, road)
    return tuple([how_many(held) * many for _, _, held, many in sides_of(web)[road]])


def heaviest(web, rota):
    """The greatest number of letters that a walk carries from one end, with its first day, index and place.

    None for one place alone.
    """
    need_posted(web, rota)
    known = days_known(web, rota)
    sides = sides_of(web)
    found = None
    for day in range(1, len(known)):
        for index, _, place, many in carried_on(web, rota, sides, known, day):
            if found is None or many > found[0]:
                found = (many, day, index, place)
    return found


def last_letter(web, rota):
    """The moment at which the last letter is at its goal, (1, 0) for one place alone."""
    need_posted(web, rota)
    return max([max(list(spread(web, (rota,), place, (1, 0)).values())) for place in web[0]])


def letter_days(web, rota):
    """The ascending list of (day, letters) of how many letters come to their goals on each day on which any do."""
    need_posted(web, rota)
    counts = {}
    for row in table_of(web, (rota,)):
        for day in row:
            counts[day] = counts.get(day, 0) + 1
    return sorted([(day, many) for day, many in counts.items() if day > 0])


def lightest_peak(web):
    """The least greatest number of letters that a walk carries from one end, over all rotas of a tree."""
    need_tree(web)
    if len(web[1]) > MOST_TRIED_ROADS:
        raise TooMany(f"there are {len(web[1])} roads")
    sides = [side for two in sides_of(web).values() for side in two]
    counts = [how_many(bits) for bits in range(1 << len(web[0]))]
    ends = numbered_ends(web)
    # On day 1 each place's own letters leave it together, so no rota carries fewer than go beyond one of its roads.
    fewest = max([many for _, _, _, many in sides], default=0)
    least = None
    for rota in unlike_rotas(web):
        peak = peak_of(sides, counts, known_each_day([[ends[name] for name in rota]], len(web[0])))
        if least is None or peak < least:
            least = peak
        if least == fewest:
            break
    return least


def peak_of(sides, counts, known):
    """The greatest number of letters that a walk carries from one end, by how many bits are set in each number."""
    peak = 0
    for day in range(1, len(known)):
        learned = [after & ~before for after, before in zip(known[day], known[day - 1])]
        peak = max([peak] + [counts[learned[beyond] & held] * many for _, beyond, held, many in sides])
    return peak
