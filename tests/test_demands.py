import unittest
from itertools import permutations

from roundpost.demands import (
    best_cost, best_for, cheaper_swap, cost_of, demand_ring, demand_ring_holds, pair_bound, place_best, turn_weights,
)
from roundpost.errors import BadDemands, BadPlace, BadRota, BadTree, BadWeb, TooMany
from samples import (
    ALONE, APART, FIVE_PAIRS, FOURTEEN_ROADS, LINE, LINE_OF_TEN, LONG_NAMES, PARALLEL, RING_AND_PIECE, SAME_NAMES,
    SQUARE, STAR, T, TEN, TRIANGLE, Touchy, all_rotas, names_of, odd_things, small_trees, small_webs, some_rotas,
    trees_of_ten,
)
from slow import simple_ways, slow_orders, slow_table

ROTA = ("r", "s", "t", "u")
MOST = 10 ** 6
# Stars of seven places with six roads at the middle, of eight with seven, and one of ten places with six.
SIX = (tuple("mabcdef"), tuple((f"n{9 - k}", "m", "abcdef"[k]) for k in range(6)))
SEVEN = (tuple("mabcdefg"), tuple((f"n{9 - k}", "m", "abcdefg"[k]) for k in range(7)))
SIX_OF_TEN = (tuple("mabcdefghi"), SIX[1] + (("x", "a", "g"), ("y", "g", "h"), ("z", "b", "i")))
TURN = (("d", "c", 5), ("c", "b", 5), ("b", "d", 5), ("c", "d", 2), ("a", "m", 9))


def some_demands(web, step):
    """Demands between a few of the places, with few weights so that many sums are equal."""
    pairs = [(place, other) for place in web[0] for other in web[0] if place != other]
    chosen = (pairs[::step] + pairs[step // 2::step + 1])[:40]
    return tuple((*pair, 1 + (k * step) % 3) for k, pair in enumerate(dict.fromkeys(chosen)))


def cost_by_hand(web, table, demands):
    days = [table[web[0].index(place)][web[0].index(other)] for place, other, _ in demands]
    return None if None in days else sum(day * demand[2] for day, demand in zip(days, demands))


def weights_by_hand(web, demands):
    """The dict of the turn weights, by going along the only way of each demand."""
    found = {}
    ends = {name: {near, far} for name, near, far in web[1]}
    for place, other, weight in demands:
        ((names, _),) = [one for one in simple_ways(web, place) if one[1] == other]
        for first, second in zip(names, names[1:]):
            (here,) = ends[first] & ends[second]
            found[here, first, second] = found.get((here, first, second), 0) + weight
    return found


def lost_by_hand(weights, place, names):
    return sum(
        weight for (here, first, second), weight in weights.items()
        if here == place and names.index(second) < names.index(first)
    )


def names_at(web, place):
    return slow_orders(web, names_of(web))[web[0].index(place)]


class Costs(unittest.TestCase):
    def test_by_hand(self):
        self.assertEqual(cost_of(T, ROTA, (("a", "e", 5), ("e", "a", 2))), 11)
        self.assertEqual(cost_of(T, ROTA, ()), 0)
        self.assertEqual(cost_of(ALONE, (), ()), 0)
        self.assertEqual(cost_of(T, ROTA, (("a", "b", MOST),)), MOST)
        self.assertIsNone(cost_of(APART, (), (("a", "b", 1),)))
        self.assertIsNone(cost_of(RING_AND_PIECE, names_of(RING_AND_PIECE), (("z", "m", 1), ("z", "k", 1))))
        self.assertEqual(cost_of(RING_AND_PIECE, names_of(RING_AND_PIECE), (("z", "m", 3), ("b", "k", 1))), 4)

    def test_days_times_weights(self):
        for web in small_webs()[::23] + [T, SQUARE, TRIANGLE, LINE_OF_TEN, STAR]:
            for step in [1, 2, 5]:
                demands = some_demands(web, step)
                for rota in some_rotas(web):
                    expected = cost_by_hand(web, slow_table(web, rota), demands)
                    self.assertEqual(cost_of(web, rota, demands), expected)

    def test_wrong_demands(self):
        forty = some_demands(LINE_OF_TEN, 2)[:40]
        self.assertEqual(len(forty), 40)
        self.assertIs(type(cost_of(LINE_OF_TEN, names_of(LINE_OF_TEN), forty)), int)
        more = [one for one in some_demands(LINE_OF_TEN, 1) if one[:2] not in [other[:2] for other in forty]]
        self.assertRaises(BadDemands, cost_of, LINE_OF_TEN, names_of(LINE_OF_TEN), forty + (more[0],))
        for thing in odd_things() + [
            [("a", "e", 1)], (["a", "e", 1],), ("a", "e", 1), (("a", "e"),), (("a", "e", 1, 1),), (("a", "a", 1),),
            (("a", "f", 1),), (("f", "a", 1),), (("a", "e", 0),), (("a", "e", -1),), (("a", "e", MOST + 1),),
            (("a", "e", True),), (("a", "e", None),), (("a", "e", "1"),), (("a", "e", (1,)),), (("a", None, 1),),
            ((Touchy(), "e", 1),), (("a", "e", Touchy()),), (Touchy(),), (("a", "e", 1), ("a", "e", 1)),
            (("a", "e", 1), ("e", "a", 1), ("a", "e", 2)), {("a", "e", 1)}, (("a", "e", 1), None),
            (("a", "e", 10 ** 59),), (("r", "s", 1),), {("a", "e", 1): True},
        ]:
            self.assertRaises(BadDemands, cost_of, T, ROTA, thing)
            self.assertRaises(BadDemands, cheaper_swap, T, ROTA, thing)
            for call in [turn_weights, best_cost, best_for, pair_bound]:
                self.assertRaises(BadDemands, call, T, thing)
            for call, rest in [(place_best, ()), (demand_ring, ()), (demand_ring_holds, (None,))]:
                self.assertRaises(BadDemands, call, T, thing, "c", *rest)
                self.assertRaises(BadDemands, call, T, thing, None, *rest)
        self.assertEqual(cost_of(T, ROTA, (("a", "e", 1), ("e", "a", 1))), 4)
        self.assertRaises(BadRota, cost_of, T, ("r",), None)
        self.assertRaises(BadRota, cheaper_swap, T, list(ROTA), None)
        self.assertRaises(BadWeb, cost_of, None, None, None)


class Trees(unittest.TestCase):
    def test_trees_are_wanted(self):
        calls = [(turn_weights, ()), (best_cost, ()), (best_for, ()), (pair_bound, ()), (place_best, (None,)),
                 (demand_ring, (None,)), (demand_ring_holds, (None, None))]
        for call, rest in calls:
            for web in [APART, PARALLEL, TRIANGLE, SQUARE, RING_AND_PIECE, FOURTEEN_ROADS, FIVE_PAIRS]:
                self.assertRaises(BadTree, call, web, None, *rest)
            for web in odd_things() + [list(T)]:
                self.assertRaises(BadWeb, call, web, None, *rest)
        for call, rest in calls[4:]:
            for place in ["f", "r", None, 0, ("c",), b"c", Touchy()]:
                self.assertRaises(BadPlace, call, T, (), place, *rest[1:])

    def test_turn_weights_by_hand(self):
        self.assertEqual(turn_weights(T, (("e", "a", 2), ("a", "e", 5), ("a", "d", 1), ("b", "c", 9))), [
            ("b", "r", "s", 6), ("b", "s", "r", 2), ("c", "s", "t", 1), ("c", "s", "u", 5), ("c", "u", "s", 2),
        ])
        self.assertEqual(turn_weights(T, (("d", "e", MOST), ("a", "b", 1))), [("c", "t", "u", MOST)])
        self.assertEqual(turn_weights(T, ()), [])
        self.assertEqual(turn_weights(ALONE, ()), [])
        self.assertEqual(turn_weights(LONG_NAMES, (("abcdefgh", "z0123456", 1),)), [])

    def test_turn_weights_along_ways(self):
        for web in small_trees() + trees_of_ten() + [T, STAR, LINE, SAME_NAMES]:
            for step in [1, 3, 4]:
                demands = some_demands(web, step)
                weights = weights_by_hand(web, demands)
                expected = sorted((*turn, weight) for turn, weight in weights.items())
                self.assertEqual(turn_weights(web, demands), expected)

    def test_cost_is_the_weights_and_what_is_lost(self):
        for web in small_trees()[::4] + [T, STAR, LINE]:
            demands = some_demands(web, 3)
            every = turn_weights(web, demands)
            for rota in all_rotas(web)[::5]:
                lost = sum(weight for _, one, two, weight in every if rota.index(two) < rota.index(one))
                self.assertEqual(cost_of(web, rota, demands), sum(one[2] for one in demands) + lost)


class Best(unittest.TestCase):
    def test_by_hand(self):
        self.assertEqual(place_best(STAR, (("d", "c", 3), ("c", "d", 2)), "m"), (2, sorted(
            order for order in permutations(("q", "p", "s", "o")) if order.index("q") < order.index("s")
        )))
        self.assertEqual(place_best(T, (("a", "e", 1),), "a"), (0, [("r",)]))
        self.assertEqual(place_best(ALONE, (), "a"), (0, [()]))
        self.assertEqual(best_cost(ALONE, ()), 0)
        self.assertEqual(best_for(ALONE, ()), ())
        self.assertEqual(pair_bound(ALONE, ()), 0)
        self.assertEqual(best_cost(STAR, TURN), 31)
        self.assertEqual(pair_bound(STAR, TURN), 28)
        self.assertEqual(place_best(STAR, TURN, "m"), (5, [
            ("p", "s", "o", "q"), ("s", "o", "p", "q"), ("s", "o", "q", "p"), ("s", "p", "o", "q"),
        ]))

    def test_all_rotas(self):
        for web in small_trees()[::2] + [T, STAR, LINE]:
            tables = [slow_table(web, rota) for rota in all_rotas(web)]
            for step in [1, 2, 3, 5]:
                demands = some_demands(web, step)
                least = min(cost_by_hand(web, table, demands) for table in tables)
                self.assertEqual(best_cost(web, demands), least)
                rota = best_for(web, demands)
                self.assertIs(type(rota), tuple)
                self.assertEqual(sorted(rota), sorted(names_of(web)))
                self.assertEqual(cost_of(web, rota, demands), least)

    def test_all_sequences_at_a_place(self):
        for web in small_trees()[::3] + [T, STAR, LINE, SIX, SIX_OF_TEN]:
            for step in [2, 3, 7]:
                demands = some_demands(web, step)
                weights = weights_by_hand(web, demands)
                total = sum(one[2] for one in demands)
                bound = total
                for place in web[0]:
                    names = names_at(web, place)
                    sums = {order: lost_by_hand(weights, place, order) for order in permutations(names)}
                    least = min(sums.values())
                    expected = (least, sorted(order for order in sums if sums[order] == least))
                    self.assertEqual(place_best(web, demands, place), expected)
                    lesser = sum(
                        min(weights.get((place, one, two), 0), weights.get((place, two, one), 0))
                        for k, one in enumerate(names) for two in names[:k]
                    )
                    bound += lesser
                    total += least
                    self.check_ring(web, demands, place, lesser == least)
                self.assertEqual(best_cost(web, demands), total)
                self.assertEqual(pair_bound(web, demands), bound)
                self.assertLessEqual(bound, total)

    def check_ring(self, web, demands, place, is_met):
        ring = demand_ring(web, demands, place)
        self.assertEqual(ring is None, is_met)
        if ring is not None:
            self.assertIs(demand_ring_holds(web, demands, place, ring), True)
            self.assertGreaterEqual(len(ring), 3)

    def test_six_roads_at_a_place_and_seven(self):
        lost, orders = place_best(SIX, (), "m")
        self.assertEqual((lost, len(orders), orders), (0, 720, sorted(orders)))
        self.assertEqual(best_cost(SIX, (("a", "b", 2), ("b", "a", 1))), 4)
        self.assertEqual(best_cost(SIX_OF_TEN, (("h", "i", MOST), ("i", "h", MOST - 1))), 6 * MOST - 5)
        self.assertEqual(sorted(best_for(SIX_OF_TEN, ())), sorted(names_of(SIX_OF_TEN)))
        for call in [best_cost, best_for]:
            self.assertRaises(TooMany, call, SEVEN, ())
            self.assertRaises(BadDemands, call, SEVEN, None)
        self.assertRaises(TooMany, place_best, SEVEN, (), "m")
        self.assertRaises(BadPlace, place_best, SEVEN, (), "h")
        self.assertEqual(place_best(SEVEN, (), "a"), (0, [("n9",)]))
        demands = (("a", "b", 3), ("b", "c", 3), ("c", "a", 3), ("a", "g", 1))
        self.assertEqual(pair_bound(SEVEN, demands), 10)
        self.assertIs(demand_ring_holds(SEVEN, demands, "m", demand_ring(SEVEN, demands, "m")), True)
        self.assertIsNone(demand_ring(SEVEN, demands[:2], "m"))

    def test_a_star_of_ten_places(self):
        star = (TEN, tuple((f"n{k}", "a", TEN[k]) for k in range(1, 10)))
        demands = tuple((TEN[k], TEN[k % 9 + 1], k) for k in range(1, 10))
        ring = demand_ring(star, demands, "a")
        self.assertIs(demand_ring_holds(star, demands, "a", ring), True)
        self.assertEqual(sorted(ring), sorted(names_of(star)))
        self.assertEqual(pair_bound(star, demands), 45)
        self.assertIsNone(demand_ring(star, demands[1:], "a"))
        self.assertIsNone(demand_ring(star, demands, "b"))


class Rings(unittest.TestCase):
    def test_by_hand(self):
        self.assertIs(demand_ring_holds(STAR, TURN, "m", demand_ring(STAR, TURN, "m")), True)
        for ring in [("q", "s", "o"), ("s", "o", "q"), ("o", "q", "s")]:
            self.assertIs(demand_ring_holds(STAR, TURN, "m", ring), True)
            self.assertIs(demand_ring_holds(STAR, TURN, "m", ring[::-1]), False)
        # Where both turn weights of two roads are the same, neither would stand ahead of the other.
        self.assertIsNone(demand_ring(STAR, TURN[:3] + (("c", "d", 5),), "m"))
        self.assertIsNone(demand_ring(STAR, TURN[:2], "m"))
        self.assertIsNone(demand_ring(STAR, TURN, "d"))
        self.assertIsNone(demand_ring(STAR, (("d", "c", 1), ("c", "d", 2)), "m"))

    def test_all_tuples_of_roads(self):
        demands = TURN + (("b", "a", 1), ("a", "c", 2), ("d", "a", 3))
        weights = weights_by_hand(STAR, demands)

        def is_more(one, two):
            return weights.get(("m", one, two), 0) > weights.get(("m", two, one), 0)

        held = []
        for many in range(5):
            for names in permutations(names_of(STAR), many):
                expected = many >= 3 and all(is_more(*pair) for pair in zip(names, names[1:] + names[:1]))
                self.assertIs(demand_ring_holds(STAR, demands, "m", names), expected)
                held += [names] if expected else []
        self.assertIn(demand_ring(STAR, demands, "m"), held)

    def test_other_objects(self):
        for thing in odd_things() + [
            ["q", "s", "o"], ("q", "s"), ("q", "s", "o", "q"), ("q", "s", "o", "q", "s", "o"), ("q", "s", None), "qso",
            ("q", "s", ("o",)), ("q", "s", Touchy()), ("m", "d", "c"), {"q", "s", "o"}, (("q", "s", "o"),),
            ("q", "s", 1), ("q", "s", "x"), (), ("q",), ("q", "s", True), ("q", "q", "q"),
        ]:
            self.assertIs(demand_ring_holds(STAR, TURN, "m", thing), False)
            self.assertIs(demand_ring_holds(ALONE, (), "a", thing), False)
        for ring in [("q", "s", "o"), ("p", "q", "s", "o")]:
            self.assertIs(demand_ring_holds(STAR, TURN, "d", ring), False)
            self.assertIs(demand_ring_holds(STAR, (), "m", ring), False)


class Swaps(unittest.TestCase):
    def test_by_hand(self):
        self.assertIsNone(cheaper_swap(T, ROTA, ()))
        self.assertIsNone(cheaper_swap(ALONE, (), ()))
        self.assertIsNone(cheaper_swap(APART, (), (("a", "b", 1),)))
        self.assertIsNone(cheaper_swap(LONG_NAMES, ("z9999999",), (("abcdefgh", "z0123456", 1),)))
        self.assertEqual(cheaper_swap(T, ROTA, (("e", "a", 1),)), 0)
        self.assertEqual(cheaper_swap(T, ROTA, (("e", "d", 1),)), 2)
        self.assertIsNone(cheaper_swap(T, ROTA, (("d", "e", 1),)))
        self.assertIsNone(cheaper_swap(T, ROTA, (("d", "e", 1), ("e", "d", 1))))

    def test_all_indexes(self):
        found = set()
        for web in small_webs()[::19] + [T, SQUARE, TRIANGLE, RING_AND_PIECE, STAR, LINE, PARALLEL]:
            for step in [2, 3]:
                demands = some_demands(web, step)
                for rota in all_rotas(web)[::7]:
                    cost = cost_by_hand(web, slow_table(web, rota), demands)
                    less = []
                    for k in range(len(rota) - 1):
                        other = rota[:k] + (rota[k + 1], rota[k]) + rota[k + 2:]
                        if cost is not None and cost_by_hand(web, slow_table(web, other), demands) < cost:
                            less.append(k)
                    self.assertEqual(cheaper_swap(web, rota, demands), less[0] if less else None)
                    found.add(less[0] if less else None)
        self.assertLessEqual({None, 0, 1, 2}, found)


if __name__ == "__main__":
    unittest.main()
