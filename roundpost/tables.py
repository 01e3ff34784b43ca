"""Tables of days: what each place knows at the end of each day, and the days on which it came to know it.

Places are told by their numbers, sets of places by a bit for each.
"""


def numbered_ends(web):
    """The dict of the (number, number) of the two places of each road."""
    numbers = {place: at for at, place in enumerate(web[0])}
    return {name: (numbers[near], numbers[far]) for name, near, far in web[1]}


def numbered_rounds(web, week):
    """The list, for each round, of the list of the (number, number) of the places of each of its roads."""
    ends = numbered_ends(web)
    return [[ends[name] for name in names] for names in week]


def known_each_day(rounds, many):
    """The list of the lists of what so many places know at the end of each day, the dawn of day 1 first.

    It ends where nothing more is learned, or a few days later.
    """
    known = [1 << at for at in range(many)]
    whole = (1 << many) - 1
    found = [known]
    idle = 0
    while idle < len(rounds) and known.count(whole) < many:
        known = known_behind(rounds[(len(found) - 1) % len(rounds)], known)
        idle = idle + 1 if known == found[-1] else 0
        found.append(known)
    return found


def known_behind(ends, known):
    """What the places know behind the walks of roads with these ends."""
    after = list(known)
    for near, far in ends:
        if after[near] != after[far]:
            both = after[near] | after[far]
            after[near] = both
            after[far] = both
    return after


def days_until_all(ends, many, most):
    """The day at whose end each of so many places knows all, by the same walks each day; most, if not earlier."""
    known = [1 << at for at in range(many)]
    whole = (1 << many) - 1
    for day in range(most):
        if known.count(whole) == many:
            return day
        known = known_behind(ends, known)
    return most


def days_between(ends, start, goal):
    """The day on which news comes from a place to another one to which it does come, by the same walks each day."""
    known = 1 << start
    day = 0
    while known >> goal & 1 == 0:
        day = day + 1
        for near, far in ends:
            if known >> near & 1 or known >> far & 1:
                known = known | 1 << near | 1 << far
    return day


def is_day_in(known, start, goal, day):
    """Whether news of the first place comes to the other on this day, by what is known each day."""
    if day >= len(known) or known[day][goal] >> start & 1 == 0:
        return False
    return day == 0 or known[day - 1][goal] >> start & 1 == 0


def table_of(web, week):
    """The list of the lists of all days, from each place in turn to each."""
    many = len(web[0])
    known = known_each_day(numbered_rounds(web, week), many)
    table = [[None] * many for _ in range(many)]
    for at in range(many):
        table[at][at] = 0
    for day in range(1, len(known)):
        for goal in range(many):
            learned = known[day][goal] & ~known[day - 1][goal]
            if learned:
                for start in range(many):
                    if learned >> start & 1:
                        table[start][goal] = day
    return table


def slowest_in(web, table):
    """The greatest entry of a table of days, None if it is there, and the first two places that have it."""
    places = web[0]
    found = (0, places[0], places[0])
    for place, row in zip(places, table):
        for other, day in zip(places, row):
            if day is None:
                return None, place, other
            if day > found[0]:
                found = (day, place, other)
    return found
