import unittest

from roundpost.errors import BadPlace
from roundpost.news import arrivals, day_table, days, never_holds, never_paper, slowest
from roundpost.webs import distance, is_tree
from samples import (
    ALONE, APART, FIVE_PAIRS, FOURTEEN_PARALLEL, FOURTEEN_ROADS, LINE_OF_TEN, PARALLEL, RING_AND_PIECE, SQUARE, T, TEN,
    TRIANGLE, WEBS, Touchy, all_rotas, names_of, odd_things, small_webs, some_rotas, some_weeks,
)
from slow import slow_arrivals, slow_moments, slow_slowest, slow_table, slow_walks

ROTA = ("r", "s", "t", "u")
WEEK = (ROTA,)


class Arrivals(unittest.TestCase):
    def test_example(self):
        self.assertEqual(arrivals(T, WEEK, "e", (1, 0)), [(3, 1), (2, 2), (1, 4), (2, 3), (1, 0)])
        self.assertEqual(arrivals(T, WEEK, "a", (1, 0)), [(1, 0), (1, 1), (1, 2), (1, 3), (1, 4)])

    def test_behind_the_walk_it_waits(self):
        self.assertEqual(arrivals(T, WEEK, "a", (1, 1)), [(1, 1), (2, 1), (2, 2), (2, 3), (2, 4)])
        self.assertEqual(arrivals(T, WEEK, "a", (1, 4)), [(1, 4), (2, 1), (2, 2), (2, 3), (2, 4)])
        self.assertEqual(arrivals(T, WEEK, "a", (2, 0)), [(2, 0), (2, 1), (2, 2), (2, 3), (2, 4)])

    def test_behind_the_last_day_of_moments(self):
        self.assertEqual(arrivals(T, WEEK, "e", (1000000, 4))[:3], [(1000003, 1), (1000002, 2), (1000001, 4)])
        week = ((), ("u",), ("s",), ("t", "r"))
        self.assertEqual(arrivals(T, week, "e", (1000000, 2)), [
            (1000004, 2), (1000003, 1), (1000002, 1), (1000004, 1), (1000000, 2),
        ])

    def test_alone_and_apart(self):
        self.assertEqual(arrivals(ALONE, ((),), "a", (1000000, 0)), [(1000000, 0)])
        self.assertEqual(arrivals(APART, ((), ()), "b", (7, 0)), [None, (7, 0)])

    def test_a_road_that_is_never_walked(self):
        self.assertEqual(arrivals(T, (("t", "r"), ("u",)), "a", (1, 1)), [(1, 1), (1, 2), None, None, None])

    def test_against_walks_one_by_one(self):
        for web in WEBS:
            for week in some_weeks(web):
                for moment in slow_moments(week, 1, len(week))[::3] + [(1000000, 0)]:
                    for place in web[0][::2]:
                        expected = slow_arrivals(web, week, place, moment)
                        self.assertEqual(arrivals(web, week, place, moment), expected)

    def test_it_is_there_behind_a_walk_and_not_ahead_of_it(self):
        for web in [T, SQUARE, FOURTEEN_ROADS]:
            for week in some_weeks(web):
                for place, since in zip(web[0], arrivals(web, week, web[0][0], (2, 0))):
                    if since is not None and place != web[0][0]:
                        day, walks = since
                        name = [walk[2] for walk in slow_walks(week, day, day)][walks - 1]
                        self.assertIn(place, [road[1:] for road in web[1] if road[0] == name][0])


class Days(unittest.TestCase):
    def test_example(self):
        self.assertEqual(days(T, WEEK, "a", "e"), 1)
        self.assertEqual(days(T, WEEK, "e", "a"), 3)
        self.assertEqual(days(T, WEEK, "e", "e"), 0)

    def test_small_webs_with_all_rotas(self):
        for web in small_webs()[::3]:
            for rota in all_rotas(web)[::2]:
                self.assertEqual(day_table(web, (rota,)), slow_table(web, rota))

    def test_each_entry(self):
        for web in WEBS:
            for week in some_weeks(web):
                table = day_table(web, week)
                self.assertEqual([len(row) for row in table], [len(web[0])] * len(web[0]))
                for place, row in zip(web[0], table):
                    since = slow_arrivals(web, week, place, (1, 0))
                    for k, other in enumerate(web[0]):
                        expected = 0 if other == place else None if since[k] is None else since[k][0]
                        self.assertEqual(row[k], expected)
                        self.assertEqual(days(web, week, place, other), expected)

    def test_main_property(self):
        for web in WEBS:
            for rota in some_rotas(web):
                table = day_table(web, (rota,))
                for i, place in enumerate(web[0]):
                    for j, other in enumerate(web[0][:i]):
                        steps = distance(web, place, other)
                        if is_tree(web):
                            self.assertEqual(table[i][j] + table[j][i], steps + 1)
                        elif steps is not None:
                            self.assertLessEqual(table[i][j] + table[j][i], steps + 1)

    def test_lines_of_ten_places(self):
        names = names_of(LINE_OF_TEN)
        self.assertEqual(days(LINE_OF_TEN, (names,), "a", "j"), 1)
        self.assertEqual(days(LINE_OF_TEN, (names,), "j", "a"), 9)
        self.assertEqual(days(LINE_OF_TEN, ((), (), (), names[::-1]), "a", "j"), 36)

    def test_parallel_roads(self):
        names = names_of(FOURTEEN_PARALLEL)
        self.assertEqual(day_table(FOURTEEN_PARALLEL, (names,)), [[0, 1], [1, 0]])
        self.assertEqual(day_table(FOURTEEN_PARALLEL, ((), names[3:4])), [[0, 2], [2, 0]])

    def test_lists_are_new(self):
        table = day_table(RING_AND_PIECE, (names_of(RING_AND_PIECE),))
        for row in table:
            row.clear()
        table.clear()
        self.assertEqual(day_table(APART, ((),)), [[0, None], [None, 0]])
        self.assertEqual([len(row) for row in day_table(RING_AND_PIECE, (names_of(RING_AND_PIECE),))], [5] * 5)


class Slowest(unittest.TestCase):
    def test_by_hand(self):
        self.assertEqual(slowest(T, WEEK), (3, "d", "a"))
        self.assertEqual(slowest(T, (("u", "t", "s", "r"),)), (3, "a", "d"))
        self.assertEqual(slowest(ALONE, ((),)), (0, "a", "a"))
        self.assertEqual(slowest(APART, ((),)), (None, "a", "b"))
        self.assertEqual(slowest(PARALLEL, (("q",),)), (1, "a", "b"))
        self.assertEqual(slowest(T, (("s", "t", "u"),)), (None, "a", "b"))
        self.assertEqual(slowest(T, (("r", "t", "u"),)), (None, "a", "c"))

    def test_against_all_pairs(self):
        for web in WEBS + small_webs()[::5]:
            for week in some_weeks(web):
                self.assertEqual(slowest(web, week), slow_slowest(web, day_table(web, week)))


class Never(unittest.TestCase):
    def test_by_hand(self):
        self.assertIsNone(never_paper(T, WEEK, "a", "e"))
        self.assertIsNone(never_paper(APART, ((),), "b", "b"))
        self.assertEqual(never_paper(APART, ((),), "b", "a"), ("b",))
        self.assertEqual(never_paper(RING_AND_PIECE, (("a", "v"), ("k",)), "m", "b"), ("a", "m", "z"))
        self.assertEqual(never_paper(RING_AND_PIECE, (("a", "v"), ()), "k", "b"), ("k",))
        self.assertIsNone(never_paper(RING_AND_PIECE, (("a",), ("v",)), "m", "a"))
        self.assertEqual(never_paper(FIVE_PAIRS, (names_of(FIVE_PAIRS),), "g", "a"), ("b", "g"))

    def test_all_pairs(self):
        for web in WEBS:
            for week in some_weeks(web):
                for place in web[0]:
                    since = slow_arrivals(web, week, place, (1, 0))
                    come = tuple(sorted(other for other, one in zip(web[0], since) if one is not None))
                    for other in web[0]:
                        paper = never_paper(web, week, place, other)
                        self.assertEqual(paper, None if other in come else come)
                        self.assertIs(never_holds(web, week, place, other, paper), paper is not None)

    def test_holds_for_more_places_too(self):
        web = (("d", "a", "c", "b"), (("x", "a", "b"), ("y", "c", "d"), ("z", "b", "c")))
        for week in [(("x", "y"),), (("x",), (), ("y",))]:
            self.assertIs(never_holds(web, week, "a", "c", ("a", "b")), True)
            self.assertIs(never_holds(web, week, "b", "c", ("a", "b")), True)
            self.assertIs(never_holds(web, week, "d", "a", ("c", "d")), True)
            for thing in [
                ("b", "a"), ["a", "b"], ("a",), ("b",), ("a", "a", "b"), ("a", "b", "c"), ("a", "b", "d"), (),
                ("a", "b", "c", "d"), ("a", "b", "e"), ("c", "d"), ("a", "b", None), "ab", ("a", ("b",)), {"a", "b"},
                (Touchy(), "b"), ("a", Touchy()), ("a", True), ("a", 0), ("a", b"b"), None, True,
            ] + odd_things():
                self.assertIs(never_holds(web, week, "a", "c", thing), False)
        self.assertIs(never_holds(web, (("x",),), "a", "c", ("a", "b", "d")), True)
        self.assertIs(never_holds(web, (("x",),), "a", "c", ("a", "d", "b")), False)
        self.assertIs(never_holds(web, (("x",),), "a", "d", ("a", "b", "c")), True)

    def test_the_same_place_twice(self):
        for thing in [("b",), (), ("a", "b"), ("a",), None]:
            self.assertIs(never_holds(APART, ((),), "b", "b", thing), False)

    def test_all_tuples_of_places(self):
        for web in [TRIANGLE, RING_AND_PIECE]:
            for week in some_weeks(web):
                papers = [tuple(one for k, one in enumerate(sorted(web[0])) if bits >> k & 1)
                          for bits in range(2 ** len(web[0]))]
                walked = [road for road in web[1] if any(road[0] in names for names in week)]
                for paper in papers:
                    closed = all((near in paper) == (far in paper) for _, near, far in walked)
                    for place in web[0]:
                        for other in web[0]:
                            expected = place in paper and other not in paper and closed
                            self.assertIs(never_holds(web, week, place, other, paper), expected)

    def test_places_in_their_sequence(self):
        self.assertRaises(BadPlace, never_paper, T, WEEK, "x", "y")
        self.assertRaises(BadPlace, never_holds, T, WEEK, "a", TEN, None)


if __name__ == "__main__":
    unittest.main()
