import unittest
from itertools import permutations

from roundpost.errors import BadCount, BadMoment, BadRanks, BadRota, TooMany
from roundpost.rotas import backwards, ranks, rota_of, turned_rota, walks_between
from samples import (
    ALONE, APART, FOURTEEN_PARALLEL, FOURTEEN_ROADS, PARALLEL, SQUARE, T, TRIANGLE, WEBS, Touchy, all_rotas, names_of,
    odd_things, some_rotas, some_weeks,
)
from slow import slow_moments, slow_walks

ROTA = ("u", "r", "t", "s")


class Ranks(unittest.TestCase):
    def test_example(self):
        self.assertEqual(ranks(T, ROTA), (1, 3, 2, 0))
        self.assertEqual(rota_of(T, (1, 3, 2, 0)), ROTA)
        self.assertEqual(ranks(T, ("r", "s", "t", "u")), (0, 1, 2, 3))

    def test_no_roads(self):
        for web in [ALONE, APART]:
            self.assertEqual(ranks(web, ()), ())
            self.assertEqual(rota_of(web, ()), ())

    def test_each_rank_is_the_index(self):
        for web in WEBS:
            for rota in some_rotas(web):
                found = ranks(web, rota)
                self.assertIs(type(found), tuple)
                self.assertEqual([rota[rank] for rank in found], list(names_of(web)))
                self.assertEqual(rota_of(web, found), rota)

    def test_all_ranks(self):
        for web in [PARALLEL, TRIANGLE, T, SQUARE]:
            found = {rota_of(web, chosen) for chosen in permutations(range(len(web[1])))}
            self.assertEqual(found, set(all_rotas(web)))

    def test_wrong_ranks(self):
        for thing in odd_things() + [
            [0, 1, 2, 3], (0, 1, 2), (0, 1, 2, 3, 4), (0, 1, 2, 3, 3), (0, 1, 2, 2), (1, 2, 3, 4), (-1, 0, 1, 2),
            (False, True, 2, 3), (0, True, 2, 3), (False, 1, 2, 3), (0, 1, 2, "3"), (0, 1, 2, None), (0, 1, 2, (3,)),
            ("r", "s", "t", "u"), ((0, 1, 2, 3),), "0123", (0, 1, 2, Touchy()), range(4), (3, 3, 3, 3),
            (0, 1, 2, 10 ** 59), (),
        ]:
            self.assertRaises(BadRanks, rota_of, T, thing)
        self.assertRaises(BadRanks, rota_of, ALONE, (0,))
        self.assertRaises(BadRanks, rota_of, ALONE, [])
        self.assertRaises(BadRanks, rota_of, PARALLEL, (False, True))

    def test_rotas_that_are_none(self):
        for call in [ranks, backwards]:
            for thing in odd_things() + [
                ["r", "s", "t", "u"], ("r", "s", "t"), ("r", "s", "t", "u", "r"), ("r", "s", "t", "t"), (),
                ("r", "s", "t", "x"), ("r", "s", "t", None), ("r", "s", "t", ("u",)), (("r", "s", "t", "u"),), "rstu",
                (0, 1, 2, 3), ("r", "s", "t", Touchy()), ("R", "s", "t", "u"), ("a", "b", "c", "d"),
            ]:
                self.assertRaises(BadRota, call, T, thing)
            self.assertRaises(BadRota, call, ALONE, [])
            self.assertRaises(BadRota, call, ALONE, ("r",))


class OtherSequences(unittest.TestCase):
    def test_turned(self):
        self.assertEqual([turned_rota(T, ROTA, count) for count in range(5)], [
            ("u", "r", "t", "s"), ("r", "t", "s", "u"), ("t", "s", "u", "r"), ("s", "u", "r", "t"), ROTA,
        ])
        self.assertEqual(turned_rota(ALONE, (), 0), ())

    def test_turned_is_made_of_both_parts(self):
        for web in WEBS:
            for rota in some_rotas(web):
                for count in range(len(rota) + 1):
                    found = turned_rota(web, rota, count)
                    self.assertEqual(found[:len(rota) - count], rota[count:])
                    self.assertEqual(found[len(rota) - count:], rota[:count])

    def test_wrong_counts(self):
        for count in [-1, 5, 14, 10 ** 59, True, False, None, "1", (1,), [1], {}, Touchy(), b"1"]:
            self.assertRaises(BadCount, turned_rota, T, ROTA, count)
        for count in [1, -1, False, None]:
            self.assertRaises(BadCount, turned_rota, ALONE, (), count)
        self.assertEqual(turned_rota(FOURTEEN_ROADS, names_of(FOURTEEN_ROADS), 14), names_of(FOURTEEN_ROADS))
        self.assertRaises(BadCount, turned_rota, FOURTEEN_ROADS, names_of(FOURTEEN_ROADS), 15)

    def test_backwards(self):
        self.assertEqual(backwards(T, ROTA), ("s", "t", "r", "u"))
        self.assertEqual(backwards(ALONE, ()), ())
        for web in WEBS:
            for rota in some_rotas(web):
                self.assertEqual(backwards(web, rota), tuple(reversed(rota)))


class WalksBetween(unittest.TestCase):
    def test_by_hand(self):
        week = (("r", "s"), (), ("t",))
        self.assertEqual(walks_between(T, week, (1, 1), (4, 1)), [(1, 1, "s"), (3, 0, "t"), (4, 0, "r")])
        self.assertEqual(walks_between(T, week, (1, 0), (1, 2)), [(1, 0, "r"), (1, 1, "s")])
        self.assertEqual(walks_between(T, week, (1, 2), (2, 0)), [])
        self.assertEqual(walks_between(T, week, (1, 2), (3, 0)), [])
        self.assertEqual(walks_between(T, week, (1, 1), (1, 1)), [])
        self.assertEqual(walks_between(T, week, (4, 1), (1, 1)), [])
        self.assertEqual(walks_between(T, week, (2, 0), (1, 2)), [])
        self.assertEqual(walks_between(T, week, (999999, 0), (1000000, 2)), [
            (999999, 0, "t"), (1000000, 0, "r"), (1000000, 1, "s"),
        ])

    def test_all_pairs_of_moments(self):
        for web in [ALONE, APART, PARALLEL, TRIANGLE, T]:
            for week in some_weeks(web):
                moments = slow_moments(week, 1, 6)
                walks = slow_walks(week, 1, 6)
                for moment in moments[::2]:
                    for other in moments:
                        expected = [walk for walk in walks if moment <= walk[:2] < other]
                        self.assertEqual(walks_between(web, week, moment, other), expected)

    def test_five_hundred(self):
        week = (names_of(FOURTEEN_PARALLEL), (), ("r3",))
        # 15 walks in three days: 495 in 99 of them, then 5 more.
        found = walks_between(FOURTEEN_PARALLEL, week, (1, 0), (100, 5))
        self.assertEqual(found, [walk for walk in slow_walks(week, 1, 100) if walk[:2] < (100, 5)])
        self.assertEqual(len(found), 500)
        self.assertRaises(TooMany, walks_between, FOURTEEN_PARALLEL, week, (1, 0), (100, 6))
        self.assertEqual(len(walks_between(FOURTEEN_PARALLEL, week, (1, 1), (100, 6))), 500)
        self.assertRaises(TooMany, walks_between, FOURTEEN_PARALLEL, week, (1, 0), (1000000, 0))
        self.assertEqual(walks_between(FOURTEEN_PARALLEL, week, (1000000, 0), (1, 0)), [])

    def test_many_days_with_few_walks(self):
        week = ((), (), (), ("r",))
        found = walks_between(T, week, (998001, 0), (1000000, 1))
        self.assertEqual(found, [(998001 + 3 + 4 * k, 0, "r") for k in range(500)])
        self.assertRaises(TooMany, walks_between, T, week, (998000, 0), (1000000, 1))
        self.assertEqual(len(walks_between(T, week, (998000, 1), (1000000, 1))), 500)

    def test_nothing_is_ever_walked(self):
        for web in [ALONE, T]:
            for week in [((),), ((), (), (), ())]:
                self.assertEqual(walks_between(web, week, (1, 0), (1000000, 0)), [])

    def test_wrong_moments(self):
        week = (("r", "s"), ("t",))
        for wrong in odd_things() + [
            [1, 0], (1,), (1, 0, 0), (0, 0), (1, -1), (1, 3), (2, 2), (1000001, 0), (-1, 0), (10 ** 59, 0), (True, 0),
            (1, False), (1, True), ("1", 0), (1, "0"), (None, 0), (1, None), ((1, 0),), ((1,), (0,)), (Touchy(), 0),
            (1, Touchy()), (), (1000000, 2), 1,
        ]:
            self.assertRaises(BadMoment, walks_between, T, week, wrong, (1, 0))
            self.assertRaises(BadMoment, walks_between, T, week, (1, 0), wrong)
        self.assertEqual(walks_between(T, week, (1000000, 0), (1000000, 1)), [(1000000, 0, "t")])


if __name__ == "__main__":
    unittest.main()
