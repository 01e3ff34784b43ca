import unittest

from roundpost.best import (
    best_from, best_home, best_tree_rota, kept_best, least_slowest, slow_holds, slow_paper,
)
from roundpost.errors import BadCount, BadPieces, BadPlace, BadRota, BadTree, BadWeb, TooMany
from roundpost.news import day_table, slowest
from roundpost.rotas import backwards
from roundpost.webs import distance, is_tree, longest_way, pieces
from samples import (
    ALONE, APART, FIVE_PAIRS, FOURTEEN_PARALLEL, FOURTEEN_ROADS, LINE, LINE_OF_TEN, LONG_NAMES, PARALLEL,
    RING_AND_PIECE, SAME_NAMES, SQUARE, STAR, T, TEN, TRIANGLE, Touchy, all_rotas, names_of, odd_things, small_trees,
    small_webs, some_rotas, trees_of_ten,
)
from slow import slow_slowest, slow_table

ONE_PIECE = [one for one in small_webs() if len(pieces(one)) == 1]
NO_TREES = [APART, PARALLEL, TRIANGLE, RING_AND_PIECE, SQUARE, FOURTEEN_ROADS, FIVE_PAIRS]
RING_OF_SIX = (TEN[:6], tuple((f"r{k}", TEN[k], TEN[(k + 1) % 6]) for k in range(6)))
RING_OF_SEVEN = (TEN[:7], tuple((f"r{k}", TEN[k], TEN[(k + 1) % 7]) for k in range(7)))
TWO_RINGS = (
    ("d", "b", "c", "a"),
    (("z", "a", "b"), ("y", "b", "c"), ("x", "c", "a"), ("w", "c", "d"), ("v", "d", "c")),
)


def slow_best(web):
    """The least slowest days of all rotas, tried one by one."""
    return min(slow_slowest(web, slow_table(web, rota))[0] for rota in all_rotas(web))


class Everywhere(unittest.TestCase):
    def test_example(self):
        self.assertEqual(best_from(T, "c"), ("s", "r", "t", "u"))
        self.assertEqual(best_home(T, "c"), ("r", "s", "t", "u"))

    def test_by_hand(self):
        self.assertEqual(best_from(ALONE, "a"), ())
        self.assertEqual(best_home(ALONE, "a"), ())
        self.assertEqual(best_from(T, "e"), ("u", "s", "r", "t"))
        self.assertEqual(best_home(T, "e"), ("r", "s", "t", "u"))
        self.assertEqual(best_from(PARALLEL, "b"), ("p", "q"))
        self.assertEqual(best_from(STAR, "b"), ("o", "q", "p", "s"))
        self.assertEqual(best_home(STAR, "b"), ("q", "p", "s", "o"))

    def test_the_first_of_all_rotas(self):
        for web in ONE_PIECE[::3] + [SQUARE, TWO_RINGS, LINE, T, STAR, SAME_NAMES]:
            tables = [(rota, slow_table(web, rota)) for rota in all_rotas(web)]
            for at, place in enumerate(web[0]):
                out = [rota for rota, table in tables if max(table[at]) <= 1]
                home = [rota for rota, table in tables if max(row[at] for row in table) <= 1]
                self.assertEqual(best_from(web, place), out[0])
                self.assertEqual(best_home(web, place), home[0])

    def test_many_roads(self):
        for web in [LINE_OF_TEN, FOURTEEN_ROADS, FOURTEEN_PARALLEL, RING_OF_SEVEN] + trees_of_ten():
            for at, place in enumerate(web[0]):
                table = day_table(web, (best_from(web, place),))
                self.assertLessEqual(max(table[at]), 1)
                table = day_table(web, (best_home(web, place),))
                self.assertLessEqual(max(row[at] for row in table), 1)

    def test_ten_and_more_roads_by_number(self):
        names = names_of(FOURTEEN_PARALLEL)
        self.assertEqual(best_from(FOURTEEN_PARALLEL, "b"), names)
        self.assertEqual(best_home(FOURTEEN_PARALLEL, "b"), names)
        self.assertEqual(best_from(LINE_OF_TEN, "a"), names_of(LINE_OF_TEN))
        self.assertEqual(best_from(LINE_OF_TEN, "j"), names_of(LINE_OF_TEN)[::-1])

    def test_backwards_in_trees(self):
        for web in small_trees() + trees_of_ten():
            for at, place in enumerate(web[0]):
                table = day_table(web, (backwards(web, best_from(web, place)),))
                self.assertLessEqual(max(row[at] for row in table), 1)
                table = day_table(web, (backwards(web, best_home(web, place)),))
                self.assertLessEqual(max(table[at]), 1)

    def test_one_piece_is_wanted(self):
        for call in [best_from, best_home]:
            for web in [APART, RING_AND_PIECE, FIVE_PAIRS]:
                self.assertRaises(BadPieces, call, web, None)
            self.assertRaises(BadPieces, least_slowest, APART)
            self.assertRaises(BadWeb, call, list(APART), None)
            self.assertRaises(BadPlace, call, T, "f")


class LeastSlowest(unittest.TestCase):
    def test_example(self):
        self.assertEqual(least_slowest(T), 2)
        self.assertEqual(slowest(T, (("r", "t", "u", "s"),))[0], 2)
        self.assertEqual(slowest(T, (best_tree_rota(T),))[0], 2)
        self.assertEqual(slow_paper(T, 1), ("a", "d"))

    def test_one_place_alone(self):
        self.assertEqual(best_tree_rota(ALONE), ())
        self.assertEqual(least_slowest(ALONE), 0)
        self.assertIsNone(slow_paper(ALONE, 0))
        self.assertIsNone(kept_best(ALONE, ()))

    def test_main_property_in_all_small_trees(self):
        for web in small_trees() + [T, STAR, LINE, LONG_NAMES]:
            longest = longest_way(web)[0]
            expected = longest // 2 + 1 if longest else 0
            self.assertEqual(slow_best(web), expected)
            self.assertEqual(least_slowest(web), expected)

    def test_rotas_of_trees(self):
        for web in small_trees() + trees_of_ten() + [T, STAR, LINE, LONG_NAMES, SAME_NAMES]:
            rota = best_tree_rota(web)
            self.assertIs(type(rota), tuple)
            self.assertEqual(sorted(rota), sorted(names_of(web)))
            longest = longest_way(web)[0]
            self.assertEqual(slowest(web, (rota,))[0], longest // 2 + 1 if longest else 0)
            self.assertEqual(least_slowest(web), slowest(web, (rota,))[0])
            self.assertIsNone(kept_best(web, rota))

    def test_all_rotas_of_small_webs(self):
        for web in [one for one in ONE_PIECE if not is_tree(one)][::9] + [SQUARE, TRIANGLE, PARALLEL, TWO_RINGS]:
            self.assertEqual(least_slowest(web), slow_best(web))

    def test_six_roads_and_more(self):
        self.assertEqual(least_slowest(RING_OF_SIX), 2)
        self.assertRaises(TooMany, least_slowest, RING_OF_SEVEN)
        self.assertRaises(TooMany, least_slowest, FOURTEEN_ROADS)
        self.assertRaises(TooMany, least_slowest, FOURTEEN_PARALLEL)
        self.assertEqual(least_slowest((("a", "b"), FOURTEEN_PARALLEL[1][:6])), 1)
        self.assertRaises(TooMany, least_slowest, (("a", "b"), FOURTEEN_PARALLEL[1][:7]))
        self.assertEqual(least_slowest((TEN[:8], LINE_OF_TEN[1][:7])), 4)
        self.assertEqual(least_slowest(LINE_OF_TEN), 5)
        self.assertRaises(BadPieces, least_slowest, FIVE_PAIRS)

    def test_trees_are_wanted(self):
        for web in NO_TREES:
            self.assertRaises(BadTree, best_tree_rota, web)
            self.assertRaises(BadTree, slow_paper, web, None)
            self.assertRaises(BadTree, slow_holds, web, None, None)
            self.assertRaises(BadTree, kept_best, web, None)
        for call, more in [(best_tree_rota, ()), (slow_paper, (0,)), (slow_holds, (0, None)), (kept_best, ((),))]:
            for web in odd_things() + [list(ALONE), (("a", "a"), ())]:
                self.assertRaises(BadWeb, call, web, *more)


class SlowPapers(unittest.TestCase):
    def test_all_small_trees(self):
        for web in small_trees():
            places = web[0]
            tables = [slow_table(web, rota) for rota in all_rotas(web)]
            for count in range(6):
                paper = slow_paper(web, count)
                if any(slow_slowest(web, table)[0] <= count for table in tables):
                    self.assertIsNone(paper)
                else:
                    self.assertEqual(paper, longest_way(web)[1:])
                    one, other = places.index(paper[0]), places.index(paper[1])
                    for table in tables:
                        self.assertGreater(max(table[one][other], table[other][one]), count)
                    self.assertIs(slow_holds(web, count, paper), True)

    def test_counts(self):
        self.assertEqual(slow_paper(LINE_OF_TEN, 0), ("a", "j"))
        self.assertEqual(slow_paper(LINE_OF_TEN, 4), ("a", "j"))
        self.assertIsNone(slow_paper(LINE_OF_TEN, 5))
        self.assertIsNone(slow_paper(LINE_OF_TEN, 100))
        self.assertIs(slow_holds(LINE_OF_TEN, 100, ("a", "j")), False)
        for call, more in [(slow_paper, ()), (slow_holds, (("a", "j"),))]:
            for count in [-1, 101, 10 ** 59, True, False, None, "0", (0,), [0], Touchy()]:
                self.assertRaises(BadCount, call, LINE_OF_TEN, count, *more)

    def test_what_holds(self):
        for web in small_trees() + [T, LINE_OF_TEN]:
            for count in range(6):
                for place in web[0]:
                    for other in web[0]:
                        expected = place != other and distance(web, place, other) >= 2 * count
                        self.assertIs(slow_holds(web, count, (place, other)), expected)

    def test_other_objects(self):
        for thing in odd_things() + [
            ["a", "d"], ("a",), (), ("a", "d", "e"), ("a", "f"), ("f", "a"), ("a", None), ("a", ("d",)), "ad",
            (("a", "d"),), {"a", "d"}, ("a", Touchy()), (Touchy(), "a"), (True, "a"), ("a", b"d"), ("A", "d"),
            ("r", "t"),
        ]:
            self.assertIs(slow_holds(T, 0, thing), False)
            self.assertIs(slow_holds(T, 1, thing), False)


class KeptBest(unittest.TestCase):
    def test_by_hand(self):
        self.assertEqual(kept_best(T, ("r", "s", "t", "u")), 0)
        self.assertIsNone(kept_best(T, ("r", "t", "u", "s")))
        names = names_of(LINE_OF_TEN)
        self.assertEqual(kept_best(LINE_OF_TEN, names), 0)
        line = (TEN[:6], LINE_OF_TEN[1][:5])
        self.assertIsNone(kept_best(line, ("r0", "r1", "r4", "r3", "r2")))
        self.assertEqual(kept_best(line, ("r0", "r1", "r2", "r4", "r3")), 0)
        # No two neighbours of this rota have a common place, so no exchange makes any days others.
        self.assertEqual(kept_best(line, ("r0", "r3", "r1", "r4", "r2")), -1)

    def test_all_rotas_of_trees(self):
        found = set()
        for web in small_trees()[::2] + [T, STAR, LINE]:
            best = slow_best(web)
            for rota in all_rotas(web)[::2]:
                days = slow_slowest(web, slow_table(web, rota))[0]
                less = [
                    k for k in range(len(rota) - 1)
                    if slow_slowest(web, slow_table(web, rota[:k] + (rota[k + 1], rota[k]) + rota[k + 2:]))[0] < days
                ]
                expected = None if days == best else (less + [-1])[0]
                self.assertEqual(kept_best(web, rota), expected)
                found.add(expected)
        self.assertLessEqual({None, -1, 0, 1, 2}, found)

    def test_trees_of_ten_places(self):
        for web in trees_of_ten():
            best = longest_way(web)[0] // 2 + 1
            for rota in some_rotas(web):
                index = kept_best(web, rota)
                days = slowest(web, (rota,))[0]
                self.assertEqual(index is None, days == best)
                if index is not None and index >= 0:
                    there = rota[:index] + (rota[index + 1], rota[index]) + rota[index + 2:]
                    self.assertLess(slowest(web, (there,))[0], days)

    def test_errors(self):
        self.assertRaises(BadRota, kept_best, T, ("r", "s", "t"))
        self.assertRaises(BadTree, kept_best, SQUARE, names_of(SQUARE))


if __name__ == "__main__":
    unittest.main()
