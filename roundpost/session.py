"""Sessions: a web and a rota that are changed deed by deed, and changed back."""

from roundpost.best import least_of_tree
from roundpost.counts import is_count
from roundpost.errors import BadIndex, BadName, BadPlace, Full, NothingToUndo
from roundpost.rotas import need_index, need_rota, swapped
from roundpost.spread import days_from
from roundpost.tables import slowest_in, table_of
from roundpost.webs import MOST_ROADS, is_name, is_tree, need_place, need_road, need_web, without_road

MOST_DEEDS = 50


class Session:
    """A web and a rota of it, and what they were ahead of each deed in force."""

    def __init__(self, web, rota):
        need_web(web)
        need_rota(web, rota)
        self._web = web
        self._rota = rota
        self._past = []

    def __eq__(self, other):
        return isinstance(other, Session) and self._web == other._web and self._rota == other._rota

    def __len__(self):
        return len(self._rota)

    def exchange(self, index):
        """Exchanges the roads at an index of the rota and next behind it."""
        need_index(self._web, index)
        self._turn_to(self._web, swapped(self._rota, index))

    def move(self, road, index):
        """Takes a road out of the rota and puts it in so that it has this index."""
        need_road(self._web, road)
        if not is_count(index, 0, len(self._rota) - 1):
            raise BadIndex("this is no index of a rota")
        rest = self._rota_without(road)
        self._turn_to(self._web, rest[:index] + (road,) + rest[index:])

    def close(self, road):
        """Takes a road out of the web and the rota."""
        need_road(self._web, road)
        self._turn_to(without_road(self._web, road), self._rota_without(road))

    def build(self, name, place, other):
        """Adds a road at the end of the web's roads and of the rota."""
        if not is_name(name) or name in self._rota:
            raise BadName("this is no name that a road can have yet")
        need_place(self._web, place)
        need_place(self._web, other)
        if place == other:
            raise BadPlace("these are not two places")
        places, roads = self._web
        if len(roads) == MOST_ROADS:
            raise Full("there are as many roads as a web can have")
        self._turn_to((places, roads + ((name, place, other),)), self._rota + (name,))

    def undo(self):
        """Takes back the last deed in force."""
        if not self._past:
            raise NothingToUndo("no deed is in force")
        self._web, self._rota = self._past.pop()

    def web(self):
        """The web as it is now."""
        return self._web

    def rota(self):
        """The rota as it is now."""
        return self._rota

    def days(self, place, other):
        """The day on which news of the dawn of the first place comes to the other, 0 for the same, None for never."""
        need_place(self._web, place)
        need_place(self._web, other)
        return days_from(self._web, (self._rota,), place)[self._web[0].index(other)]

    def slowest(self):
        """The greatest of all days, None if there is one that never is, and the first two places that have it."""
        return slowest_in(self._web, table_of(self._web, (self._rota,)))

    def is_best(self):
        """Whether the web is a tree and the slowest days of the rota are the least of it."""
        return is_tree(self._web) and self.slowest()[0] == least_of_tree(self._web)

    def copy(self):
        """An equal session that goes its own way and can take back the same deeds."""
        found = Session(self._web, self._rota)
        found._past = list(self._past)
        return found

    def _turn_to(self, web, rota):
        if len(self._past) == MOST_DEEDS:
            raise Full("as many deeds are in force as can be")
        self._past.append((self._web, self._rota))
        self._web = web
        self._rota = rota

    def _rota_without(self, road):
        return tuple([name for name in self._rota if name != road])
