import unittest
from itertools import permutations, product

from roundpost.best import table_fault, target_rota
from roundpost.errors import BadTable, BadTree, BadWeb
from roundpost.news import day_table
from roundpost.webs import distance, way_of
from samples import (
    ALONE, APART, LINE, LINE_OF_TEN, LONG_NAMES, PARALLEL, SQUARE, STAR, T, Touchy, all_rotas, names_of, odd_things,
    small_trees, some_rotas, trees_of_ten, walked,
)
from slow import slow_table

ROTA = ("r", "s", "t", "u")
LINE_OF_THREE = (("b", "a", "c"), (("y", "b", "c"), ("x", "a", "b")))
STAR_OF_FOUR = (("m", "a", "b", "c"), (("x", "m", "a"), ("y", "b", "m"), ("z", "m", "c")))


def slow_fault(web, table):
    """The first fault by the words of point 24."""
    places = web[0]
    number = {place: k for k, place in enumerate(places)}

    def told(one, other):
        return table[number[one]][number[other]]

    def wrong(one, other):
        if told(one, other) is None:
            return True
        if one == other:
            return told(one, other) != 0
        if told(other, one) is None or told(one, other) + told(other, one) != distance(web, one, other) + 1:
            return True
        along = [one] + walked(web, one, way_of(web, one, other))
        falls = sum(told(near, far) == 2 for near, far in zip(along, along[2:]))
        return told(one, other) != falls + 1

    for one in places:
        for other in places:
            if wrong(one, other):
                return one, other
    for place in places:
        ends = {name: far if near == place else near for name, near, far in web[1] if place in (near, far)}
        fitting = [
            names for names in permutations(ends)
            if all(told(ends[late], ends[soon]) == 2 for k, soon in enumerate(names) for late in names[k + 1:])
        ]
        if not fitting:
            return place, place
    return None


def changed(table, i, j, entry):
    return [[entry if (k, m) == (i, j) else old for m, old in enumerate(row)] for k, row in enumerate(table)]


class Tables(unittest.TestCase):
    def test_by_hand(self):
        self.assertEqual(target_rota(T, day_table(T, (ROTA,))), ROTA)
        self.assertIsNone(table_fault(T, day_table(T, (ROTA,))))
        self.assertEqual(target_rota(T, day_table(T, (("t", "r", "s", "u"),))), ("r", "t", "s", "u"))
        self.assertEqual(target_rota(ALONE, [[0]]), ())
        self.assertIsNone(table_fault(ALONE, [[0]]))
        for entry in [None, 1, -1, 7]:
            self.assertEqual(table_fault(ALONE, [[entry]]), ("a", "a"))
            self.assertIsNone(target_rota(ALONE, [[entry]]))

    def test_all_rotas_of_small_trees(self):
        for web in small_trees() + [T, STAR, LONG_NAMES]:
            first = {}
            for rota in all_rotas(web):
                first.setdefault(str(slow_table(web, rota)), rota)
            for rota in all_rotas(web)[::2]:
                table = slow_table(web, rota)
                self.assertIsNone(table_fault(web, table))
                self.assertEqual(target_rota(web, table), first[str(table)])

    def test_line_with_the_first_of_all(self):
        rotas = all_rotas(LINE)
        first = {}
        for rota in rotas:
            first.setdefault(str(slow_table(LINE, rota)), rota)
        for rota in rotas[::7]:
            self.assertEqual(target_rota(LINE, slow_table(LINE, rota)), first[str(slow_table(LINE, rota))])

    def test_one_entry_wrong(self):
        for web in small_trees()[::3] + [T, STAR, LINE]:
            for rota in some_rotas(web)[:2]:
                table = slow_table(web, rota)
                for i, one in enumerate(web[0]):
                    for j, other in enumerate(web[0]):
                        for entry in [None, 0, 1, 2, 3, -1, 10 ** 59]:
                            there = changed(table, i, j, entry)
                            fault = table_fault(web, there)
                            self.assertEqual(fault, slow_fault(web, there))
                            if entry != table[i][j]:
                                self.assertIsNotNone(fault)
                                self.assertIsNone(target_rota(web, there))

    def test_wrong_together_with_the_days_back(self):
        table = day_table(T, (ROTA,))
        for entry in [None, 2, 4]:
            self.assertEqual(table_fault(T, changed(table, 4, 0, entry)), ("a", "e"))
        self.assertEqual(table_fault(T, changed(table, 2, 2, None)), ("c", "c"))
        self.assertEqual(table_fault(T, changed(table, 2, 2, 1)), ("c", "c"))

    def test_wrong_by_the_falls(self):
        # From a to e both ways together are right, and each is told as a fall more or less than the way has.
        table = changed(changed(day_table(T, (ROTA,)), 0, 4, 2), 4, 0, 2)
        self.assertEqual(table_fault(T, table), ("a", "e"))
        self.assertEqual(slow_fault(T, table), ("a", "e"))
        self.assertIsNone(target_rota(T, table))

    def test_all_tables_of_a_line_of_three(self):
        rotas = {str(slow_table(LINE_OF_THREE, rota)): rota for rota in all_rotas(LINE_OF_THREE)[::-1]}
        for values in product([0, 1, 2, None], repeat=6):
            table = [[0, *values[:2]], [values[2], 0, values[3]], [*values[4:], 0]]
            self.assertEqual(target_rota(LINE_OF_THREE, table), rotas.get(str(table)))
            self.assertEqual(table_fault(LINE_OF_THREE, table), slow_fault(LINE_OF_THREE, table))
            self.assertIs(table_fault(LINE_OF_THREE, table) is None, str(table) in rotas)

    def test_orders_that_go_round(self):
        round_ones = 0
        for values in product([1, 2], repeat=6):
            left = list(values)
            table = [[0 if i == j else 1 if 0 in (i, j) else left.pop() for j in range(4)] for i in range(4)]
            fault = table_fault(STAR_OF_FOUR, table)
            self.assertEqual(fault, slow_fault(STAR_OF_FOUR, table))
            round_ones += fault == ("m", "m")
            self.assertEqual(target_rota(STAR_OF_FOUR, table) is None, fault is not None)
        self.assertEqual(round_ones, 2)

    def test_the_first_place_at_which_they_go_round(self):
        # Two stars of three roads, joined: the orders at b and at a go round, and b is the first place.
        web = (
            ("b", "a", "c", "d", "e", "f"),
            (("v", "a", "b"), ("w", "b", "c"), ("x", "b", "d"), ("y", "a", "e"), ("z", "a", "f")),
        )
        falls = [("a", "c"), ("c", "d"), ("d", "a"), ("b", "e"), ("e", "f"), ("f", "b")]
        for turned, expected in [([], ("b", "b")), ([("d", "a")], ("a", "a")), ([("f", "b")], ("b", "b")),
                                 ([("d", "a"), ("b", "e")], None)]:
            told = [pair[::-1] if pair in turned else pair for pair in falls]
            table = []
            for one in web[0]:
                row = []
                for other in web[0]:
                    along = [one] + walked(web, one, way_of(web, one, other))
                    row.append(0 if one == other else 1 + sum(pair in told for pair in zip(along, along[2:])))
                table.append(row)
            self.assertEqual(table_fault(web, table), expected)
            self.assertEqual(slow_fault(web, table), expected)

    def test_ten_places(self):
        for web in trees_of_ten():
            for rota in some_rotas(web):
                table = day_table(web, (rota,))
                self.assertIsNone(table_fault(web, table))
                self.assertEqual(day_table(web, (target_rota(web, table),)), table)
                there = changed(table, 9, 3, table[9][3] + 1)
                self.assertEqual(table_fault(web, there), (web[0][3], web[0][9]))
                self.assertIsNone(target_rota(web, there))

    def test_tables_stay_as_they_are(self):
        table = day_table(T, (ROTA,))
        for call in [table_fault, target_rota]:
            call(T, table)
            self.assertEqual(table, day_table(T, (ROTA,)))


class WrongTables(unittest.TestCase):
    def test_wrong_at_every_depth(self):
        table = day_table(T, (ROTA,))
        for thing in odd_things() + [
            tuple(table), [tuple(row) for row in table], table[:4], table + [table[0]], [row[:4] for row in table],
            [row + [0] for row in table], table[:4] + [table[4][:4]], table[:4] + [table[4] + [0]], [table], {},
            table[:4] + [None], table[:4] + [tuple(table[4])], [[0, 0, 0, 0, "0"]] * 5, ["00000"] * 5, [[]] * 5,
            [dict.fromkeys(range(5))] * 5, dict.fromkeys(range(5), [0] * 5), [Touchy()] * 5,
        ] + [changed(table, i, j, entry) for i, j in [(0, 0), (2, 3), (4, 4)]
             for entry in [True, False, "1", (1,), [1], b"1", Touchy(), {}]]:
            for call in [target_rota, table_fault]:
                self.assertRaises(BadTable, call, T, thing)
        for thing in [[], [[]], [[0, 0]], [[0], [0]], [[False]], [(0,)], ((0,),), [0], None]:
            self.assertRaises(BadTable, table_fault, ALONE, thing)

    def test_trees_are_wanted(self):
        for call in [target_rota, table_fault]:
            for web in [APART, PARALLEL, SQUARE]:
                self.assertRaises(BadTree, call, web, None)
                self.assertRaises(BadTree, call, web, day_table(web, (names_of(web),)))
            self.assertRaises(BadWeb, call, None, None)
            self.assertRaises(BadWeb, call, list(T), day_table(T, (ROTA,)))
        self.assertEqual(len(target_rota(LINE_OF_TEN, day_table(LINE_OF_TEN, (names_of(LINE_OF_TEN),)))), 9)


if __name__ == "__main__":
    unittest.main()
