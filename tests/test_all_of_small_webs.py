"""All two places, all counts and all roads of some small webs, for functions that go a short way to their answers."""

import unittest
from itertools import combinations

from roundpost.best import best_from, best_home, least_slowest
from roundpost.errors import BadCount, BadPlace
from roundpost.knowing import idle_walks, lessons
from roundpost.returns import there_and_back
from roundpost.snow import snow_days, worst_snow
from roundpost.webs import distance, is_tree, pieces
from samples import (
    LINE, PARALLEL, RING_AND_PIECE, SAME_NAMES, SQUARE, STAR, T, TEN, TRIANGLE, all_rotas, names_of, small_webs,
    some_rotas,
)
from slow import slow_table, slow_walks, walked_table

FOUR_EACH = (TEN[:4], (
    ("k", "c", "d"), ("b", "a", "c"), ("e", "b", "d"), ("a", "a", "b"), ("d", "b", "c"), ("c", "d", "a"),
))
RING_OF_SIX = (TEN[:6], tuple((f"r{k}", TEN[k], TEN[(k + 1) % 6]) for k in range(6)))
STAR_OF_SIX = (tuple("mabcdef"), tuple((f"n{9 - k}", "m", "abcdef"[k]) for k in range(6)))
TAILED = (("d", "a", "c", "b", "e"), (
    ("z", "a", "b"), ("p", "d", "e"), ("y", "b", "c"), ("x", "c", "a"), ("w", "c", "d"), ("v", "a", "b"),
))
FULL = (TEN, tuple((f"r{k}", TEN[k], TEN[(k + 1) % 10]) for k in range(10)) + tuple(
    (f"s{k}", TEN[k], TEN[k + 5]) for k in range(4)))
SOME = [T, TRIANGLE, PARALLEL, RING_AND_PIECE, SQUARE, STAR, SAME_NAMES] + small_webs()[40::71]


class SlowReckonings(unittest.TestCase):
    def test_they_are_the_same(self):
        for web in SOME + [LINE, FOUR_EACH]:
            for rota in some_rotas(web):
                self.assertEqual(walked_table(web, rota), slow_table(web, rota))


class Snow(unittest.TestCase):
    def test_worst_snow_for_all_places_and_counts(self):
        webs = [PARALLEL, TRIANGLE, SAME_NAMES] + [one for one in small_webs()[5::29] if len(one[1]) in (2, 3)]
        for web in webs:
            for rota in all_rotas(web)[::2]:
                for count in range(4):
                    self.check(web, rota, count)
        for web, most in [(T, 2), (RING_AND_PIECE, 2), (SQUARE, 2), (STAR, 2), (FOUR_EACH, 2)]:
            for rota in [names_of(web), names_of(web)[::-2] + names_of(web)[-2::-2]]:
                for count in range(most + 1):
                    self.check(web, rota, count)

    def check(self, web, rota, count):
        """All snows of just so many walks, each gone through once for all two places."""
        table = walked_table(web, rota)
        days = [day for row in table for day in row if day is not None]
        walks = sorted((day, name) for day in range(1, max(days) + count + 1) for name in rota)
        worst = {}
        for snow in combinations(walks, count):
            found = walked_table(web, rota, snow)
            for i, place in enumerate(web[0]):
                for j, other in enumerate(web[0]):
                    last = snow[-1][0] if snow else 0
                    if table[i][j] is not None and last <= table[i][j] + count:
                        if worst.get((place, other), (0, ()))[0] < found[i][j]:
                            worst[place, other] = (found[i][j], snow)
        for place in web[0]:
            for other in web[0]:
                if place == other:
                    self.assertRaises(BadPlace, worst_snow, web, rota, place, other, count)
                else:
                    expected = worst.get((place, other), (None, ()))
                    self.assertEqual(worst_snow(web, rota, place, other, count), expected)

    def test_each_walk_of_each_road(self):
        for web in SOME:
            for rota in some_rotas(web)[:2]:
                for day, _, name in slow_walks((rota,), 1, 3):
                    table = walked_table(web, rota, ((day, name),))
                    for i, place in enumerate(web[0]):
                        for j, other in enumerate(web[0]):
                            self.assertEqual(snow_days(web, rota, place, other, ((day, name),)), table[i][j])


class Best(unittest.TestCase):
    def test_all_rotas_and_places(self):
        webs = [FOUR_EACH, RING_OF_SIX, STAR_OF_SIX, TAILED, SQUARE, LINE]
        for web in webs + [one for one in small_webs()[3::13] if len(pieces(one)) == 1]:
            tables = [(rota, walked_table(web, rota)) for rota in all_rotas(web)]
            self.assertEqual(least_slowest(web), min(max(max(row) for row in table) for _, table in tables))
            for at, place in enumerate(web[0]):
                out = [rota for rota, table in tables if max(table[at]) <= 1]
                home = [rota for rota, table in tables if max(row[at] for row in table) <= 1]
                self.assertEqual(best_from(web, place), out[0])
                self.assertEqual(best_home(web, place), home[0])

    def test_ten_places(self):
        for web in [FULL, (FULL[0][::-1], FULL[1][::-1]), (TEN, FULL[1][::2] + FULL[1][1::2])]:
            for at, place in enumerate(web[0]):
                self.assertLessEqual(max(walked_table(web, best_from(web, place))[at]), 1)
                table = walked_table(web, best_home(web, place))
                self.assertLessEqual(max(row[at] for row in table), 1)

    def test_no_road_could_stand_earlier(self):
        # The rota is the first: behind each of its beginnings no road with a lesser number can go on to one that does.
        web = (FULL[0][:6], tuple(road for road in FULL[1] if set(road[1:]) <= set(TEN[:6]))[:6])
        tables = [(rota, walked_table(web, rota)) for rota in all_rotas(web)]
        for at, place in enumerate(web[0]):
            self.assertEqual(best_from(web, place), [rota for rota, table in tables if max(table[at]) <= 1][0])


class Lessons(unittest.TestCase):
    def test_all_counts(self):
        for web in SOME:
            names = names_of(web)
            for week in [(names,), (names[::-1], names[1:], ()), (names[:1], names[::-2])]:
                every = self.walks(web, week, 12)
                for count in range(13):
                    held = [walk for walk in every if walk[0] <= count]
                    self.assertEqual(lessons(web, week, count), [walk for walk in held if walk[3]])
                    self.assertEqual(idle_walks(web, week, count), [walk[:3] for walk in held if not walk[3]])
                self.assertRaises(BadCount, lessons, web, week, 201)

    def walks(self, web, week, days):
        """The (day, index, road, learned) of all walks of these days, walk by walk."""
        ends = {name: two for name, *two in web[1]}
        known = {place: {place} for place in web[0]}
        found = []
        for day, index, name in slow_walks(week, 1, days):
            both = known[ends[name][0]] | known[ends[name][1]]
            learned = sorted((place, other) for place in ends[name] for other in both - known[place])
            known = {place: both if place in ends[name] else known[place] for place in known}
            found.append((day, index, name, learned))
        return found


class ThereAndBack(unittest.TestCase):
    def test_all_two_places(self):
        for web in small_webs()[::5] + SOME + [LINE, FOUR_EACH, RING_OF_SIX, FULL]:
            for rota in some_rotas(web):
                table = walked_table(web, rota)
                for i, place in enumerate(web[0]):
                    for j, other in enumerate(web[0]):
                        expected = (table[i][j], table[j][i], distance(web, place, other))
                        self.assertEqual(there_and_back(web, rota, place, other), expected)
                        self.assertTrue(not is_tree(web) or sum(expected[:2]) == expected[2] + (place != other))


if __name__ == "__main__":
    unittest.main()
