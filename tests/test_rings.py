import unittest

from roundpost.errors import BadChain, BadCount, BadDay, BadRing, BadRota, BadWeb
from roundpost.news import days
from roundpost.returns import answer_moment, way_days
from roundpost.rings import chain_answer_day, chain_back_day, chain_day, lap, reached_on, ring_back_day, ring_day
from samples import (
    ALONE, APART, PARALLEL, RING_AND_PIECE, SQUARE, T, TEN, TRIANGLE, Touchy, all_rings, all_rotas,
    names_of, odd_things, small_webs, some_rotas,
)

FOUR = (TEN[:4], tuple((f"n{k}", TEN[k], TEN[(k + 1) % 4]) for k in range(4)))
FIVE = (TEN[:5], tuple((f"n{k}", TEN[k], TEN[(k + 1) % 5]) for k in range(5)))
MOST = 10 ** 15
CHAINS = [
    (0, 1), (1, 0), (0, 2, 1), (2, 1, 0), (0, 1, 2), (-5, 10 ** 59, 3, -10 ** 59), (5, 1, 4, 2, 3), tuple(range(12)),
    tuple(range(12))[::-1], (6, 0, 7, 1, 8, 2, 9, 3, 10, 4, 11, 5), (3, -1, 4, -2, 5, -9, 2, -6, 53, 58, 97, -93),
]


def gone_round(rota, ring, count):
    """The day on which so many roads of a ring are gone, by going through the walks one by one."""
    gone, day = 0, 0
    while gone < count:
        day += 1
        for name in rota:
            if name == ring[gone % len(ring)]:
                gone += 1
                if gone == count:
                    return day
    return day


def gone_by(chain, copies):
    """The list of how many roads of all copies are gone at the end of each day, by going through the walks."""
    ranks = chain * copies
    found = [0]
    while found[-1] < len(ranks):
        gone = found[-1]
        for rank in sorted(chain):
            if gone < len(ranks) and ranks[gone] == rank:
                gone += 1
        found.append(gone)
    return found


class Laps(unittest.TestCase):
    def test_example(self):
        rota = names_of(FOUR)
        self.assertEqual(lap(FOUR, rota, rota), (1, 3))
        back = rota[::-1]
        self.assertEqual(lap(FOUR, rota, back), (3, 1))

    def test_by_hand(self):
        self.assertEqual(lap(PARALLEL, ("p", "q"), ("p", "q")), (1, 1))
        self.assertEqual(lap(PARALLEL, ("p", "q"), ("q", "p")), (1, 1))
        self.assertEqual(lap(TRIANGLE, ("x", "z", "y"), ("x", "y", "z")), (2, 1))
        self.assertEqual(ring_day(TRIANGLE, ("x", "z", "y"), ("x", "y", "z"), 3), 2)
        self.assertEqual(ring_day(TRIANGLE, ("x", "z", "y"), ("x", "y", "z"), 4), 3)
        self.assertEqual(ring_back_day(TRIANGLE, ("x", "z", "y"), ("x", "y", "z"), 2), 1)
        self.assertEqual(ring_back_day(TRIANGLE, ("x", "z", "y"), ("x", "y", "z"), 3), 2)
        self.assertEqual(ring_back_day(PARALLEL, ("p", "q"), ("p", "q"), 1), 1)
        self.assertEqual(ring_back_day(PARALLEL, ("p", "q"), ("p", "q"), 2), 2)
        self.assertEqual(ring_day(PARALLEL, ("p", "q"), ("p", "q"), 2), 1)

    def rings(self):
        for web in [one for one in small_webs() if all_rings(one)][::7] + [TRIANGLE, PARALLEL, SQUARE, FIVE]:
            for ring in sorted(all_rings(web)):
                for rota in (all_rotas(web) if len(web[1]) < 4 else some_rotas(web)):
                    yield web, rota, ring

    def test_walk_by_walk_from_each_of_their_roads(self):
        for web, rota, ring in self.rings():
            for count in range(1, 3 * len(ring) + 2):
                self.assertEqual(ring_day(web, rota, ring, count), gone_round(rota, ring, count))
                self.assertEqual(ring_back_day(web, rota, ring, count), gone_round(rota, ring[::-1], count))

    def test_laps_as_ways(self):
        for web, rota, ring in self.rings():
            falls, rises = lap(web, rota, ring)
            self.assertEqual(falls + rises, len(ring))
            self.assertEqual(way_days(web, rota, ring * 4) - way_days(web, rota, ring * 3), falls)
            self.assertEqual(way_days(web, rota, ring[::-1] * 4) - way_days(web, rota, ring[::-1] * 3), rises)
            self.assertEqual(ring_day(web, rota, ring, 4 * len(ring)), way_days(web, rota, ring * 4))

    def test_whole_laps_there_and_back(self):
        for web, rota, ring in self.rings():
            for laps in [1, 2, 3, 77, MOST // len(ring)]:
                count = laps * len(ring)
                together = ring_day(web, rota, ring, count) + ring_back_day(web, rota, ring, count)
                self.assertEqual(together, count + 1)

    def test_huge_counts(self):
        rota = names_of(FIVE)
        self.assertEqual(ring_day(FIVE, rota, rota, MOST), MOST // 5)
        self.assertEqual(ring_day(FIVE, rota, rota, MOST - 1), MOST // 5)
        self.assertEqual(ring_day(FIVE, rota, rota, MOST - 4), MOST // 5)
        self.assertEqual(ring_day(FIVE, rota, rota, MOST - 5), MOST // 5 - 1)
        self.assertEqual(ring_back_day(FIVE, rota, rota, MOST), 4 * MOST // 5 + 1)
        self.assertEqual(ring_back_day(FIVE, rota, rota, MOST - 4), 4 * MOST // 5 - 3)
        ring = ("x", "y", "z")
        self.assertEqual(ring_day(TRIANGLE, ("z", "y", "x"), ring, MOST), 1 + (MOST // 3) * 2)
        self.assertEqual(ring_day(TRIANGLE, ("z", "y", "x"), ring, MOST - 1), 1 + (MOST // 3) * 2)
        self.assertEqual(ring_day(TRIANGLE, ("z", "y", "x"), ring, MOST - 2), (MOST // 3) * 2)
        for call in [ring_day, ring_back_day]:
            for count in [0, -1, MOST + 1, 10 ** 59, True, False, None, "1", (1,), [1], Touchy()]:
                self.assertRaises(BadCount, call, TRIANGLE, ("z", "y", "x"), ring, count)
            self.assertEqual(call(TRIANGLE, ("z", "y", "x"), ring, 1), 1)

    def test_wrong_rings(self):
        near = [
            ("x", "y"), ("x", "x"), ("x", "y", "y"), ("x", "y", "z", "x"), ("x",), (), ["x", "y", "z"], ("x", "y", "w"),
            ("x", "y", None), ("x", "y", ("z",)), "xyz", ("a", "b", "c"), ("x", "y", Touchy()), {"x", "y", "z"},
        ]
        for thing in odd_things() + near:
            self.assertRaises(BadRing, lap, TRIANGLE, ("x", "y", "z"), thing)
            for call in [ring_day, ring_back_day]:
                self.assertRaises(BadRing, call, TRIANGLE, ("x", "y", "z"), thing, 1)
                self.assertRaises(BadRing, call, TRIANGLE, ("x", "y", "z"), thing, None)
        rota = names_of(SQUARE)
        self.assertEqual(lap(SQUARE, rota, ("h", "i")), (1, 1))
        for thing in [("h", "i", "h", "i"), ("h", "f", "g"), ("h", "i", "e"), ("e", "g", "f", "h", "i"), ("h", "g")]:
            self.assertRaises(BadRing, lap, SQUARE, rota, thing)
        # Two rings that share a place are no ring, as that place is come to twice.
        eight = (("a", "b", "c"), (("p", "a", "b"), ("q", "a", "b"), ("s", "b", "c"), ("t", "b", "c")))
        self.assertEqual(lap(eight, names_of(eight), ("t", "s")), (1, 1))
        self.assertRaises(BadRing, lap, eight, names_of(eight), ("p", "s", "t", "q"))
        for web in [T, ALONE, APART]:
            self.assertRaises(BadRing, lap, web, names_of(web), names_of(web))

    def test_sequence_of_errors(self):
        for call, more in [(lap, ()), (ring_day, (None,)), (ring_back_day, (0,))]:
            self.assertRaises(BadWeb, call, None, None, None, *more)
            self.assertRaises(BadRota, call, TRIANGLE, ["x", "y", "z"], None, *more)
            self.assertRaises(BadRing, call, TRIANGLE, ("z", "y", "x"), None, *more)
            self.assertRaises(BadRota, call, RING_AND_PIECE, ("v", "w", "a"), ("v", "w", "a"), *more)
        rota = names_of(RING_AND_PIECE)
        self.assertEqual(lap(RING_AND_PIECE, rota, ("w", "a", "v")), (1, 2))


class Chains(unittest.TestCase):
    def test_example(self):
        self.assertEqual(chain_day((0, 2, 1), 2), 4)
        self.assertEqual(chain_back_day((0, 2, 1), 2), 3)
        self.assertEqual(chain_answer_day((0, 2, 1), 2), 7)

    def test_walk_by_walk(self):
        for chain in CHAINS:
            for copies in range(1, 6):
                there, back = gone_by(chain, copies), gone_by(chain[::-1], copies)
                self.assertEqual(chain_day(chain, copies), len(there) - 1)
                self.assertEqual(chain_back_day(chain, copies), len(back) - 1)
                self.assertEqual(chain_answer_day(chain, copies), len(chain) * copies + 1)
                self.assertEqual(len(there) + len(back) - 2, len(chain) * copies + 1)
                for day in range(len(there) + 3):
                    self.assertEqual(reached_on(chain, copies, day), there[min(day, len(there) - 1)])

    def test_as_webs(self):
        for chain in [(0, 1), (1, 0), (7, -3, 2), (4, 9, -1, 0)]:
            for copies in range(1, 9 // len(chain) + 1):
                ranks = chain * copies
                roads = tuple((f"n{k}", TEN[k], TEN[k + 1]) for k in range(len(ranks)))
                web = (TEN[:len(ranks) + 1], roads)
                rota = tuple(f"n{k}" for k in sorted(range(len(ranks)), key=lambda k: ranks[k]))
                end = TEN[len(ranks)]
                self.assertEqual(chain_day(chain, copies), days(web, (rota,), "a", end))
                self.assertEqual(chain_back_day(chain, copies), days(web, (rota,), end, "a"))
                answer = answer_moment(web, (rota,), "a", end, (1, 0))
                self.assertEqual(chain_answer_day(chain, copies), answer[0])

    def test_huge_copies(self):
        self.assertEqual(chain_day((0, 1), MOST), MOST)
        self.assertEqual(chain_back_day((0, 1), MOST), MOST + 1)
        self.assertEqual(chain_day(tuple(range(12)), MOST), MOST)
        self.assertEqual(chain_back_day(tuple(range(12)), MOST), 11 * MOST + 1)
        self.assertEqual(chain_answer_day(tuple(range(12)), MOST), 12 * MOST + 1)
        self.assertEqual(chain_day((0, 2, 1), MOST), 2 * MOST)
        for chain in CHAINS:
            for copies in [MOST, MOST - 1, 10 ** 9 + 7]:
                there, back = chain_day(chain, copies), chain_back_day(chain, copies)
                self.assertEqual(there + back, len(chain) * copies + 1)
                self.assertEqual(reached_on(chain, copies, there), len(chain) * copies)
                self.assertLess(reached_on(chain, copies, there - 1), len(chain) * copies)
                self.assertEqual(reached_on(chain, copies, 10 ** 18), len(chain) * copies)
                for day in [1, 2, 10 ** 6, there // 2, there // 3]:
                    few = gone_by(chain, 4)
                    self.assertEqual(reached_on(chain, copies, 2), few[2])
                    gone = reached_on(chain, copies, day)
                    # On that day the next road is not gone, as it has a lesser rank than the one behind which it waits.
                    self.assertLess(chain[gone % len(chain)], chain[(gone - 1) % len(chain)])
                    self.assertLess(reached_on(chain, copies, day - 1), gone)

    def test_first_days(self):
        for chain in CHAINS:
            self.assertEqual(reached_on(chain, 1, 0), 0)
            self.assertEqual(reached_on(chain, MOST, 0), 0)
        self.assertEqual(reached_on((0, 1), 1, 1), 2)
        self.assertEqual(reached_on((1, 0), 1, 1), 1)
        self.assertEqual(reached_on((1, 0), 3, 2), 3)

    def test_wrong_chains(self):
        for thing in odd_things() + [
            (0,), tuple(range(13)), (0, 0), (1, 2, 1), (True, 5), (0, False), (0, None), [0, 1], (0, "1"), (0, (1,)),
            ((0, 1),), (0, Touchy()), {0: 1}, range(3), "01", (), (0, b"1"),
        ]:
            if repr(thing) != "(0, 1)":
                self.assertRaises(BadChain, reached_on, thing, None, None)
                for call in [chain_day, chain_back_day, chain_answer_day]:
                    self.assertRaises(BadChain, call, thing, 1)
                    self.assertRaises(BadChain, call, thing, 0)

    def test_wrong_copies_and_days(self):
        for copies in [0, -1, MOST + 1, 10 ** 59, True, None, "1", (1,), [1], Touchy()]:
            self.assertRaises(BadCount, reached_on, (0, 1), copies, None)
            for call in [chain_day, chain_back_day, chain_answer_day]:
                self.assertRaises(BadCount, call, (0, 1), copies)
        for day in [-1, 10 ** 18 + 1, 10 ** 59, True, False, None, "1", (1,), [1], Touchy()]:
            self.assertRaises(BadDay, reached_on, (0, 1), 1, day)
        self.assertEqual(reached_on((0, 1), 1, 10 ** 18), 2)


if __name__ == "__main__":
    unittest.main()
