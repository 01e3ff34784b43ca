import unittest
from itertools import product

from roundpost.errors import BadMoment, BadPieces, BadPlace, BadRota, BadWay, BadWeb
from roundpost.news import day_table, days
from roundpost.returns import all_days, answer_moment, saved, there_and_back, tree_sum, turns, way_days
from roundpost.webs import distance, is_tree, pieces
from samples import (
    ALONE, APART, FOURTEEN_PARALLEL, FOURTEEN_ROADS, LINE, LINE_OF_TEN, PARALLEL, RING_AND_PIECE, SQUARE, STAR, T,
    TRIANGLE, WEBS, Touchy, all_rotas, all_ways, names_of, odd_things, small_webs, some_rotas, some_weeks, walked,
)
from slow import slow_day, slow_moments, slow_spread, slow_table

ROTA = ("r", "s", "t", "u")
TREES = [ALONE, T, STAR, LINE, LINE_OF_TEN]


class Ways(unittest.TestCase):
    def test_example(self):
        self.assertEqual(turns(T, ROTA, ("u", "s", "r")), (0, 2))
        self.assertEqual(way_days(T, ROTA, ("u", "s", "r")), 3)
        self.assertEqual(turns(T, ROTA, ("r", "s", "u")), (2, 0))
        self.assertEqual(way_days(T, ROTA, ("r", "s", "u")), 1)

    def test_short_ones(self):
        self.assertEqual(turns(T, ROTA, ()), (0, 0))
        self.assertEqual(way_days(T, ROTA, ()), 0)
        self.assertEqual(turns(ALONE, (), ()), (0, 0))
        self.assertEqual(way_days(ALONE, (), ()), 0)
        self.assertEqual(turns(T, ROTA, ("u",)), (0, 0))
        self.assertEqual(way_days(T, ROTA, ("u",)), 1)

    def test_back_along_the_same_road(self):
        self.assertEqual(turns(T, ROTA, ("s", "s")), (0, 1))
        self.assertEqual(way_days(T, ROTA, ("s", "s")), 2)
        self.assertEqual(turns(T, ROTA, ("r", "s", "s", "r", "r", "s", "u", "u", "t")), (3, 5))
        self.assertEqual(turns(PARALLEL, ("q", "p"), ("p", "q", "q", "p", "p")), (1, 3))

    def test_by_the_walks_of_a_trail(self):
        for web in [T, PARALLEL, TRIANGLE, SQUARE]:
            for rota in some_rotas(web):
                for way, _ in all_ways(web, web[0][0], 4):
                    day, walks = 1, 0
                    for name in way:
                        day, walks = day + (rota.index(name) < walks), rota.index(name) + 1
                    self.assertEqual(way_days(web, rota, way), day if way else 0)
                    self.assertEqual(turns(web, rota, way), (max(len(way), 1) - day, day - 1))

    def test_all_tuples_of_roads(self):
        for web in [T, TRIANGLE, PARALLEL, RING_AND_PIECE]:
            rota = names_of(web)
            for many in range(4):
                for way in product(rota, repeat=many):
                    if any(walked(web, place, way) is not None for place in web[0]):
                        self.assertEqual(sum(turns(web, rota, way)), max(many - 1, 0))
                    else:
                        self.assertRaises(BadWay, turns, web, rota, way)
                        self.assertRaises(BadWay, way_days, web, rota, way)

    def test_a_long_one(self):
        self.assertEqual(turns(T, ROTA, ("r", "s", "s", "r") * 1000), (1000, 2999))
        self.assertRaises(BadWay, turns, T, ROTA, ("r", "s", "s", "r") * 1000 + ("t",))

    def test_what_is_no_way(self):
        for call in [turns, way_days]:
            for thing in odd_things() + [
                ["r"], [], "r", ("r", "t"), ("r", "s", "r"), ("t", "u", "t"), ("x",), ("a",), ("r", None), (None,),
                (("r",),), ("r", ("s",)), (True,), (0,), (Touchy(),), ("r", Touchy()), "rs", {"r"}, ("R",), (b"r",),
            ]:
                self.assertRaises(BadWay, call, T, ROTA, thing)
            self.assertRaises(BadWay, call, ALONE, (), ("r",))

    def test_days_are_the_least_of_all_ways(self):
        for web in small_webs()[::7]:
            for rota in some_rotas(web):
                for place in web[0]:
                    found = {}
                    for way, end in all_ways(web, place, 4):
                        found.setdefault(end, []).append(way_days(web, rota, way))
                    for other in web[0]:
                        self.assertEqual(days(web, (rota,), place, other), min(found.get(other, [None])))


class ThereAndBack(unittest.TestCase):
    def test_by_hand(self):
        self.assertEqual(there_and_back(T, ROTA, "a", "e"), (1, 3, 3))
        self.assertEqual(there_and_back(T, ROTA, "e", "a"), (3, 1, 3))
        self.assertEqual(there_and_back(T, ROTA, "c", "c"), (0, 0, 0))
        self.assertEqual(there_and_back(APART, (), "a", "b"), (None, None, None))
        self.assertEqual(there_and_back(APART, (), "b", "b"), (0, 0, 0))
        self.assertEqual(there_and_back(ALONE, (), "a", "a"), (0, 0, 0))

    def test_all_pairs(self):
        for web in WEBS:
            for rota in some_rotas(web)[:2]:
                for place in web[0]:
                    for other in web[0][::2]:
                        there, back = slow_day(web, rota, place, other), slow_day(web, rota, other, place)
                        self.assertEqual(
                            there_and_back(web, rota, place, other), (there, back, distance(web, place, other)))

    def test_saved_by_hand(self):
        # By the first rota news from a to c goes by w and x on day 1, and back by y and z on day 1, too.
        web = (("a", "b", "c", "d"), (("w", "a", "b"), ("x", "b", "c"), ("y", "c", "d"), ("z", "d", "a")))
        self.assertEqual(saved(web, ("w", "x", "y", "z")), [("a", "c", 1)])
        self.assertEqual(saved(web, ("w", "y", "x", "z")), [("a", "c", 1), ("b", "d", 1)])
        self.assertEqual(saved(PARALLEL, ("q", "p")), [])
        self.assertEqual(saved(ALONE, ()), [])

    def test_saved_in_small_webs(self):
        kept = 0
        for web in [one for one in small_webs() if len(pieces(one)) == 1][::2] + [SQUARE, FOURTEEN_ROADS]:
            for rota in all_rotas(web)[::3] if len(web[1]) < 6 else some_rotas(web):
                table = slow_table(web, rota)
                expected = []
                for i, place in enumerate(web[0]):
                    for j in range(i + 1, len(web[0])):
                        saving = distance(web, place, web[0][j]) + 1 - table[i][j] - table[j][i]
                        self.assertGreaterEqual(saving, 0)
                        if saving:
                            expected.append((place, web[0][j], saving))
                self.assertEqual(saved(web, rota), expected)
                kept += bool(expected)
        self.assertGreater(kept, 20)

    def test_nothing_is_saved_in_trees(self):
        for web in TREES:
            for rota in some_rotas(web):
                self.assertEqual(saved(web, rota), [])


class Sums(unittest.TestCase):
    def test_by_hand(self):
        self.assertEqual(all_days(ALONE, ()), 0)
        self.assertEqual(tree_sum(ALONE), 0)
        self.assertEqual(all_days(PARALLEL, ("q", "p")), 2)
        self.assertEqual(tree_sum(PARALLEL), 2)
        # Distances in T: four of 1, four of 2, two of 3.
        self.assertEqual(tree_sum(T), 4 * 2 + 4 * 3 + 2 * 4)
        self.assertEqual(all_days(T, ROTA), 28)

    def test_the_same_in_trees(self):
        for web in TREES:
            for rota in some_rotas(web):
                self.assertEqual(all_days(web, rota), tree_sum(web))

    def test_small_webs(self):
        for web in [one for one in small_webs() if len(pieces(one)) == 1][::3] + [SQUARE]:
            total = sum(distance(web, one, other) + 1 for k, one in enumerate(web[0]) for other in web[0][:k])
            self.assertEqual(tree_sum(web), total)
            for rota in all_rotas(web)[::4]:
                self.assertEqual(all_days(web, rota), sum(map(sum, slow_table(web, rota))))
                self.assertLessEqual(all_days(web, rota), total)

    def test_one_piece_is_wanted(self):
        for call in [saved, all_days]:
            self.assertRaises(BadPieces, call, APART, ())
            self.assertRaises(BadPieces, call, RING_AND_PIECE, None)
            self.assertRaises(BadWeb, call, list(APART), None)
            self.assertRaises(BadRota, call, T, None)
        self.assertRaises(BadPieces, tree_sum, APART)
        self.assertRaises(BadWeb, tree_sum, None)


class Answers(unittest.TestCase):
    def test_by_hand(self):
        week = (ROTA,)
        self.assertEqual(answer_moment(T, week, "a", "e", (1, 0)), (4, 1))
        self.assertEqual(answer_moment(T, week, "e", "a", (1, 0)), (4, 4))
        self.assertEqual(answer_moment(T, week, "c", "c", (5, 2)), (5, 2))
        self.assertEqual(answer_moment(ALONE, ((),), "a", "a", (1, 0)), (1, 0))
        self.assertIsNone(answer_moment(APART, ((),), "a", "b", (1, 0)))
        self.assertIsNone(answer_moment(T, (("r", "t"), ("u",)), "a", "e", (1, 0)))
        self.assertEqual(answer_moment(T, week, "a", "e", (1000000, 4)), (1000004, 1))

    def test_walks_one_by_one(self):
        for web in WEBS:
            for week in some_weeks(web):
                for moment in slow_moments(week, 1, 2)[::5] + [(1000000, 0)]:
                    for place in web[0][::2]:
                        asked = slow_spread(web, week, place, moment)
                        for other in web[0]:
                            found = answer_moment(web, week, place, other, moment)
                            if other not in asked:
                                self.assertIsNone(found)
                            else:
                                answered = slow_spread(web, week, other, asked[other])
                                self.assertEqual(found, answered[place])

    def test_one_more_than_the_distance_in_trees(self):
        for web in TREES:
            self.assertTrue(is_tree(web))
            for rota in some_rotas(web):
                for place in web[0]:
                    for other in web[0]:
                        day = answer_moment(web, (rota,), place, other, (1, 0))[0]
                        self.assertEqual(day, distance(web, place, other) + 1)

    def test_at_most_so_in_every_web(self):
        for web in [SQUARE, FOURTEEN_ROADS, FOURTEEN_PARALLEL, TRIANGLE]:
            for rota in some_rotas(web):
                for place in web[0]:
                    for other in web[0]:
                        day = answer_moment(web, (rota,), place, other, (1, 0))[0]
                        self.assertLessEqual(day, distance(web, place, other) + 1)

    def test_errors_in_their_sequence(self):
        self.assertRaises(BadPlace, answer_moment, T, (ROTA,), "a", "f", (0, 0))
        self.assertRaises(BadMoment, answer_moment, T, (ROTA,), "a", "e", (0, 0))
        self.assertRaises(BadMoment, answer_moment, T, (ROTA,), "a", "a", (1, 5))

    def test_tables_are_those_of_the_week_of_one_round(self):
        for web in [T, SQUARE]:
            for rota in some_rotas(web):
                table = day_table(web, (rota,))
                for i, place in enumerate(web[0]):
                    for j, other in enumerate(web[0]):
                        self.assertEqual(there_and_back(web, rota, place, other)[:2], (table[i][j], table[j][i]))


if __name__ == "__main__":
    unittest.main()
