"""The main property, and the examples of the document."""

import unittest
from itertools import combinations

from roundpost.alike import are_alike, count_alike, local_orders, swap_days
from roundpost.best import best_from, best_home, best_tree_rota, least_slowest, slow_paper
from roundpost.desk import Desk
from roundpost.news import arrivals, day_table, days, slowest, trail_holds
from roundpost.returns import answer_moment, turns
from roundpost.rings import chain_answer_day, chain_back_day, chain_day, lap
from roundpost.session import Session
from roundpost.webs import distance, is_tree, longest_way, way_of
from samples import LINE, STAR, T, TEN, WEBS, all_rotas, small_trees, small_webs, some_rotas, trees_of_ten

ROTA = ("r", "s", "t", "u")


class MainProperty(unittest.TestCase):
    def test_days_there_and_back_in_trees(self):
        for web in small_trees()[::2] + trees_of_ten() + [T, STAR, LINE]:
            for rota in (all_rotas(web)[::7] if len(web[1]) < 6 else some_rotas(web)):
                for place, other in combinations(web[0], 2):
                    steps = distance(web, place, other)
                    together = days(web, (rota,), place, other) + days(web, (rota,), other, place)
                    self.assertEqual(together, steps + 1)
                    self.assertEqual(answer_moment(web, (rota,), place, other, (1, 0))[0], steps + 1)
                    self.assertEqual(answer_moment(web, (rota,), other, place, (1, 0))[0], steps + 1)

    def test_at_most_so_in_any_web(self):
        fewer = 0
        for web in small_webs()[::7] + WEBS:
            for rota in some_rotas(web):
                for place, other in combinations(web[0], 2):
                    steps = distance(web, place, other)
                    if steps is None:
                        self.assertIsNone(days(web, (rota,), place, other))
                        continue
                    together = days(web, (rota,), place, other) + days(web, (rota,), other, place)
                    self.assertLessEqual(together, steps + 1)
                    self.assertLessEqual(answer_moment(web, (rota,), place, other, (1, 0))[0], steps + 1)
                    fewer += together < steps + 1
        self.assertGreater(fewer, 0)

    def test_the_same_days_and_the_same_sequences(self):
        for web in small_trees()[::2] + [T, STAR, LINE]:
            rotas = all_rotas(web)[::5]
            tables = {rota: day_table(web, (rota,)) for rota in rotas}
            for rota in rotas[::3]:
                for other in rotas:
                    same = local_orders(web, rota) == local_orders(web, other)
                    self.assertEqual(tables[rota] == tables[other], same)
                    self.assertEqual(are_alike(web, rota, other), same)

    def test_the_least_of_the_greatest_days(self):
        for web in small_trees()[::2] + [T, STAR, LINE]:
            if len(web[0]) > 1:
                least = min(slowest(web, (rota,))[0] for rota in all_rotas(web))
                self.assertEqual(least, longest_way(web)[0] // 2 + 1)


class Examples(unittest.TestCase):
    def test_webs(self):
        self.assertIs(is_tree(T), True)
        self.assertEqual(way_of(T, "a", "e"), ("r", "s", "u"))
        self.assertEqual(longest_way(T), (3, "a", "d"))

    def test_news(self):
        self.assertEqual(days(T, (ROTA,), "a", "e"), 1)
        self.assertEqual(days(T, (ROTA,), "e", "a"), 3)
        self.assertEqual(arrivals(T, (ROTA,), "e", (1, 0)), [(3, 1), (2, 2), (1, 4), (2, 3), (1, 0)])
        self.assertIs(trail_holds(T, (ROTA,), "e", (1, 0), (("u", 1), ("s", 2), ("r", 3))), True)

    def test_orders(self):
        self.assertEqual(turns(T, ROTA, ("u", "s", "r")), (0, 2))
        self.assertEqual(local_orders(T, ROTA), [("r",), ("r", "s"), ("s", "t", "u"), ("t",), ("u",)])
        self.assertEqual(count_alike(T, ROTA), 1)
        self.assertEqual(swap_days(T, ROTA, 2), [("d", "e", 1), ("e", "d", -1)])

    def test_best_orders(self):
        self.assertEqual(best_from(T, "c"), ("s", "r", "t", "u"))
        self.assertEqual(best_home(T, "c"), ("r", "s", "t", "u"))
        self.assertEqual(least_slowest(T), 2)
        self.assertEqual(slowest(T, (("r", "t", "u", "s"),))[0], 2)
        self.assertEqual(slowest(T, (best_tree_rota(T),))[0], 2)
        self.assertEqual(slow_paper(T, 1), ("a", "d"))

    def test_rings_and_chains(self):
        ring = (TEN[:4], tuple((f"n{k}", TEN[k], TEN[(k + 1) % 4]) for k in range(4)))
        rota = ("n0", "n1", "n2", "n3")
        self.assertEqual(lap(ring, rota, rota), (1, 3))
        self.assertEqual(chain_day((0, 2, 1), 2), 4)
        self.assertEqual(chain_back_day((0, 2, 1), 2), 3)
        self.assertEqual(chain_answer_day((0, 2, 1), 2), 7)

    def test_desk(self):
        self.assertEqual(Desk().session(), Session(T, ROTA))


if __name__ == "__main__":
    unittest.main()
