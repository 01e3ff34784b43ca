"""Rings that are gone round for ever, and chains of copies without end."""

from roundpost.counts import is_count, is_whole, need_count
from roundpost.errors import BadChain, BadDay, BadRing
from roundpost.rotas import need_rota
from roundpost.webs import need_web, ring_holds

MOST_GONE = 10 ** 15
LEAST_LINKS = 2
MOST_LINKS = 12
LAST_CHAIN_DAY = 10 ** 18


def need_ring(web, ring):
    """Raises BadRing for what is no ring of the web."""
    if not ring_holds(web, ring):
        raise BadRing("this is no ring of the web")


def falls_round(ranks):
    """The ascending list of the indexes at which the next rank, behind the last the first, is a lesser one."""
    return [at for at in range(len(ranks)) if ranks[(at + 1) % len(ranks)] < ranks[at]]


def day_round(ranks, count):
    """The day on which so many roads are gone, if their ranks come again and again."""
    falls = falls_round(ranks)
    laps, rest = divmod(count - 1, len(ranks))
    return 1 + laps * len(falls) + len([at for at in falls if at < rest])


def ring_ranks(web, rota, ring):
    """The list of the ranks of a ring's roads."""
    need_web(web)
    need_rota(web, rota)
    need_ring(web, ring)
    return [rota.index(name) for name in ring]


def lap(web, rota, ring):
    """For how many roads of a ring, gone round for ever, the next one has a lesser rank, and a greater one."""
    falls = len(falls_round(ring_ranks(web, rota, ring)))
    return falls, len(ring) - falls


def ring_day(web, rota, ring, count):
    """The day on which news that goes round a ring has gone so many roads."""
    found = ring_ranks(web, rota, ring)
    need_count(count, 1, MOST_GONE)
    return day_round(found, count)


def ring_back_day(web, rota, ring, count):
    """The day on which news that goes round a ring the other way has gone so many roads."""
    found = ring_ranks(web, rota, ring)
    need_count(count, 1, MOST_GONE)
    return day_round(found[::-1], count)


def is_chain(thing):
    """Whether it is a chain: a tuple of two to twelve unlike integers."""
    if not isinstance(thing, tuple) or not LEAST_LINKS <= len(thing) <= MOST_LINKS:
        return False
    return all([is_whole(rank) for rank in thing]) and len(set(thing)) == len(thing)


def need_copies(chain, copies):
    """Raises BadChain for what is no chain, BadCount for what is no number of copies."""
    if not is_chain(chain):
        raise BadChain("this is no chain")
    need_count(copies, 1, MOST_GONE)


def chain_day(chain, copies):
    """The day on which news of the dawn at the beginning of all copies comes to their end."""
    need_copies(chain, copies)
    return day_round(chain, len(chain) * copies)


def chain_back_day(chain, copies):
    """The day on which news of the dawn at the end of all copies comes to their beginning."""
    need_copies(chain, copies)
    return day_round(chain[::-1], len(chain) * copies)


def chain_answer_day(chain, copies):
    """The day on which an answer that is sent at once at the end is back at the beginning."""
    need_copies(chain, copies)
    # A chain is a tree, in which the turns that are falls the one way are rises the other way.
    return len(chain) * copies + 1


def reached_on(chain, copies, day):
    """How many roads of all copies news of the dawn at their beginning has gone by the end of a day."""
    need_copies(chain, copies)
    if not is_count(day, 0, LAST_CHAIN_DAY):
        raise BadDay("this is no day up to which roads are counted")
    if day == 0:
        return 0
    falls = falls_round(chain)
    # The road behind which it waits for the next day is the one with the fall numbered as this day, from day 1 on.
    laps, rest = divmod(day - 1, len(falls))
    return min(laps * len(chain) + falls[rest] + 1, len(chain) * copies)
