import unittest

from roundpost.alike import are_alike, count_alike, exchanges, exchanges_hold, first_alike, local_orders, swap_days
from roundpost.errors import BadIndex, BadRota
from roundpost.news import day_table
from roundpost.rotas import ranks
from roundpost.webs import is_tree
from samples import (
    ALONE, APART, FIVE_PAIRS, FOURTEEN_PARALLEL, FOURTEEN_ROADS, LINE, LINE_OF_TEN, LONG_NAMES, PARALLEL,
    RING_AND_PIECE, SQUARE, STAR, T, TRIANGLE, WEBS, Touchy, all_rotas, names_of, odd_things, small_webs, some_rotas,
)
from slow import by_exchanges, have_common_place, slow_orders, slow_table

ROTA = ("r", "s", "t", "u")
UP_TO_FIVE = [ALONE, APART, PARALLEL, TRIANGLE, T, SQUARE, RING_AND_PIECE, STAR, LINE, LONG_NAMES]


class LocalOrders(unittest.TestCase):
    def test_example(self):
        self.assertEqual(local_orders(T, ROTA), [("r",), ("r", "s"), ("s", "t", "u"), ("t",), ("u",)])
        self.assertEqual(count_alike(T, ROTA), 1)

    def test_by_hand(self):
        self.assertEqual(local_orders(ALONE, ()), [()])
        self.assertEqual(local_orders(APART, ()), [(), ()])
        self.assertEqual(local_orders(PARALLEL, ("q", "p")), [("q", "p"), ("q", "p")])

    def test_in_the_sequence_of_the_rota(self):
        for web in WEBS:
            for rota in some_rotas(web):
                self.assertEqual(local_orders(web, rota), slow_orders(web, rota))

    def test_a_new_list(self):
        local_orders(T, ROTA).clear()
        self.assertEqual(len(local_orders(T, ROTA)), 5)


class Alike(unittest.TestCase):
    def test_by_hand(self):
        self.assertIs(are_alike(T, ("r", "t", "s", "u"), ("t", "r", "s", "u")), True)
        self.assertIs(are_alike(T, ("r", "t", "s", "u"), ("t", "s", "r", "u")), False)
        self.assertIs(are_alike(ALONE, (), ()), True)
        self.assertEqual(first_alike(T, ("t", "r", "s", "u")), ("r", "t", "s", "u"))
        self.assertEqual(count_alike(T, ("t", "r", "s", "u")), 2)
        self.assertEqual(first_alike(ALONE, ()), ())
        self.assertEqual(count_alike(ALONE, ()), 1)

    def test_all_rotas_of_up_to_five_roads(self):
        for web in UP_TO_FIVE + small_webs()[::11]:
            rotas = all_rotas(web)
            orders = {rota: slow_orders(web, rota) for rota in rotas}
            for rota in rotas[::3]:
                alike = [other for other in rotas if orders[other] == orders[rota]]
                self.assertEqual(first_alike(web, rota), alike[0])
                self.assertEqual(count_alike(web, rota), len(alike))
                for other in rotas[::2]:
                    self.assertIs(are_alike(web, rota, other), other in alike)

    def test_the_first_compares_numbers_not_names(self):
        for web in [STAR, LINE, LINE_OF_TEN, FOURTEEN_ROADS]:
            for rota in some_rotas(web):
                first = first_alike(web, rota)
                self.assertIs(are_alike(web, rota, first), True)
                place = names_of(web).index
                for other in by_exchanges(web, rota) if len(rota) < 6 else [rota]:
                    self.assertLessEqual(list(map(place, first)), list(map(place, other)))

    def test_the_first_with_ten_and_more_roads(self):
        names = names_of(FOURTEEN_ROADS)
        rota = names[:10][::-1] + names[10:]
        # r9, joined with r8 and r0, may stand behind r7, and so on; r10 to r13 wait for their neighbours.
        self.assertIn(first_alike(FOURTEEN_ROADS, rota), by_exchanges(FOURTEEN_ROADS, rota))
        key = {name: k for k, name in enumerate(names)}
        for web, one in [(FOURTEEN_ROADS, rota), (LINE_OF_TEN, some_rotas(LINE_OF_TEN)[1])]:
            every = by_exchanges(web, one)
            self.assertEqual(first_alike(web, one), min(every, key=lambda other: [key[name] for name in other]))
            self.assertEqual(count_alike(web, one), len(every))

    def test_many_that_are_alike(self):
        names = names_of(FIVE_PAIRS)
        # Five heaps of parallel roads, of three, three, three, three and two: 14! / (6 ** 4 * 2).
        self.assertEqual(count_alike(FIVE_PAIRS, names), 33633600)
        self.assertEqual(first_alike(FIVE_PAIRS, names[::-1]), (
            "r9", "r4", "r10", "r5", "r0", "r11", "r6", "r1", "r12", "r7", "r2", "r13", "r8", "r3",
        ))
        self.assertEqual(count_alike(FOURTEEN_PARALLEL, names_of(FOURTEEN_PARALLEL)), 1)
        self.assertEqual(first_alike(FOURTEEN_PARALLEL, names[::-1]), names[::-1])

    def test_alike_exactly_with_the_same_days_in_trees(self):
        for web in [T, STAR, LINE, LONG_NAMES]:
            rotas = all_rotas(web)[::3]
            tables = {rota: slow_table(web, rota) for rota in rotas}
            for rota in rotas:
                for other in rotas:
                    self.assertIs(are_alike(web, rota, other), tables[rota] == tables[other])


class Exchanges(unittest.TestCase):
    def follow(self, web, rota, indexes):
        here = list(rota)
        for index in indexes:
            self.assertIs(type(index), int)
            self.assertIn(index, range(len(rota) - 1))
            self.assertFalse(have_common_place(web, here[index], here[index + 1]))
            here[index:index + 2] = here[index + 1], here[index]
        return tuple(here)

    def test_by_hand(self):
        self.assertEqual(exchanges(T, ("r", "t", "s", "u"), ("t", "r", "s", "u")), [0])
        self.assertEqual(exchanges(T, ROTA, ROTA), [])
        self.assertEqual(exchanges(ALONE, (), ()), [])
        self.assertIsNone(exchanges(T, ROTA, ("r", "s", "u", "t")))

    def test_all_rotas_of_up_to_five_roads(self):
        for web in UP_TO_FIVE + small_webs()[::23]:
            for rota in all_rotas(web)[::5]:
                alike = by_exchanges(web, rota)
                for other in all_rotas(web):
                    indexes = exchanges(web, rota, other)
                    if other not in alike:
                        self.assertIsNone(indexes)
                        continue
                    self.assertIs(type(indexes), list)
                    self.assertEqual(self.follow(web, rota, indexes), other)
                    self.assertIs(exchanges_hold(web, rota, other, indexes), True)

    def test_many_roads(self):
        names = names_of(FIVE_PAIRS)
        for web, rota in [(FIVE_PAIRS, names[::-1]), (FOURTEEN_ROADS, names[::2] + names[1::2])]:
            first = first_alike(web, rota)
            indexes = exchanges(web, rota, first)
            self.assertEqual(self.follow(web, rota, indexes), first)
            self.assertIs(exchanges_hold(web, rota, first, indexes), True)
            self.assertIs(exchanges_hold(web, rota, first, indexes + [0]), False)

    def test_longer_lists_hold_too(self):
        rota, other = ("r", "t", "s", "u"), ("t", "r", "s", "u")
        for many in range(40):
            self.assertIs(exchanges_hold(T, rota, other, [0] * many), many % 2 == 1)
            self.assertIs(exchanges_hold(T, rota, rota, [0] * many), many % 2 == 0)

    def test_all_short_lists(self):
        rota = ("k", "n", "l", "m", "j")
        lists = [[]] + [[one] for one in range(-1, 6)] + [[one, two] for one in range(-1, 6) for two in range(-1, 6)]
        for indexes in lists:
            here = list(rota)
            for index in indexes:
                if not 0 <= index <= 3 or have_common_place(LINE, here[index], here[index + 1]):
                    here = None
                    break
                here[index], here[index + 1] = here[index + 1], here[index]
            for other in by_exchanges(LINE, rota):
                self.assertIs(exchanges_hold(LINE, rota, other, indexes), here is not None and tuple(here) == other)

    def test_neighbours_with_a_common_place(self):
        self.assertIs(exchanges_hold(T, ROTA, ("s", "r", "t", "u"), [0]), False)
        self.assertIs(exchanges_hold(T, ROTA, ROTA, [0, 0]), False)
        self.assertIs(exchanges_hold(T, ROTA, ("r", "s", "u", "t"), [2]), False)
        self.assertIs(exchanges_hold(T, ROTA, ("r", "t", "s", "u"), [1]), False)
        self.assertIs(exchanges_hold(PARALLEL, ("q", "p"), ("q", "p"), [0, 0]), False)

    def test_other_objects(self):
        rota, other = ("r", "t", "s", "u"), ("t", "r", "s", "u")
        for thing in odd_things() + [
            (0,), [False], ["0"], [None], [0, 0, None], [[0]], [(0,)], {0}, {0: True}, [Touchy()], [3], [-1], [-4],
            [0, 3, 3], [10 ** 59], "0", 0, b"0", [True, True, 0],
        ]:
            if not isinstance(thing, list) or thing:
                self.assertIs(exchanges_hold(T, rota, other, thing), False)
        for thing in [None, (), [0], [-1], True]:
            self.assertIs(exchanges_hold(ALONE, (), (), thing), False)
        self.assertIs(exchanges_hold(ALONE, (), (), []), True)
        self.assertIs(exchanges_hold(T, ROTA, ("r", "s", "u", "t"), None), False)

    def test_rotas_in_their_sequence(self):
        for call in [are_alike, exchanges]:
            for thing in odd_things() + [list(ROTA), ROTA[:3], ROTA + ("r",), ("r", "s", "t", "t"), "rstu"]:
                self.assertRaises(BadRota, call, T, thing, ROTA)
                self.assertRaises(BadRota, call, T, ROTA, thing)


class SwapDays(unittest.TestCase):
    def test_example(self):
        self.assertEqual(swap_days(T, ROTA, 2), [("d", "e", 1), ("e", "d", -1)])

    def test_by_hand(self):
        self.assertEqual(swap_days(T, ROTA, 0), [
            ("a", "c", 1), ("a", "d", 1), ("a", "e", 1), ("c", "a", -1), ("d", "a", -1), ("e", "a", -1),
        ])
        self.assertEqual(swap_days(T, ("r", "t", "s", "u"), 0), [])
        self.assertEqual(swap_days(PARALLEL, ("p", "q"), 0), [])

    def test_all_days_before_and_behind(self):
        for web in UP_TO_FIVE + small_webs()[::9] + [LINE_OF_TEN, FOURTEEN_ROADS, FIVE_PAIRS]:
            for rota in some_rotas(web):
                for index in range(len(rota) - 1):
                    there = rota[:index] + (rota[index + 1], rota[index]) + rota[index + 2:]
                    earlier, later = day_table(web, (rota,)), day_table(web, (there,))
                    expected = [
                        (one, other, later[i][j] - earlier[i][j])
                        for i, one in enumerate(web[0]) for j, other in enumerate(web[0])
                        if earlier[i][j] is not None and later[i][j] != earlier[i][j]
                    ]
                    self.assertEqual(swap_days(web, rota, index), expected)

    def test_trees(self):
        for web in [T, STAR, LINE, LINE_OF_TEN]:
            self.assertTrue(is_tree(web))
            for rota in some_rotas(web):
                for index in range(len(rota) - 1):
                    found = swap_days(web, rota, index)
                    if not have_common_place(web, rota[index], rota[index + 1]):
                        self.assertEqual(found, [])
                    else:
                        ways = {(one, other) for one, other, _ in found}
                        self.assertEqual({(other, one) for one, other in ways}, ways)
                        self.assertEqual({difference for _, _, difference in found}, {1, -1})
                        self.assertEqual(sum(difference for _, _, difference in found), 0)

    def test_wrong_indexes(self):
        for index in [-1, 3, 4, 10 ** 59, True, False, None, "0", (0,), [0], Touchy(), b"0"]:
            self.assertRaises(BadIndex, swap_days, T, ROTA, index)
        for web in [ALONE, LONG_NAMES]:
            for index in [-2, -1, 0, 1, None, False]:
                self.assertRaises(BadIndex, swap_days, web, names_of(web), index)
        self.assertEqual(len(ranks(FOURTEEN_ROADS, names_of(FOURTEEN_ROADS))), 14)
        self.assertRaises(BadIndex, swap_days, FOURTEEN_ROADS, names_of(FOURTEEN_ROADS), 13)


if __name__ == "__main__":
    unittest.main()
