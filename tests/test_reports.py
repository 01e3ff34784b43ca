import unittest
from itertools import combinations

from roundpost.alike import first_alike
from roundpost.errors import BadReports, BadRota, BadRotas, BadTree, BadWeb, TooMany
from roundpost.reports import best_question, fault_of, fits, fitting_rotas, parting_pair, sure_orders
from samples import (
    ALONE, APART, FOURTEEN_PARALLEL, LINE, LINE_OF_TEN, PARALLEL, RING_AND_PIECE, SQUARE, STAR, T, TEN, TRIANGLE,
    Touchy, all_rotas, names_of, odd_things, small_trees, small_webs, some_rotas,
)
from slow import slow_orders, slow_table

ROTA = ("r", "s", "t", "u")
STAR_OF_SIX = (tuple("mabcdef"), tuple((f"n{9 - k}", "m", "abcdef"[k]) for k in range(6)))
STAR_OF_SEVEN = (tuple("mabcdefg"), tuple((f"n{9 - k}", "m", "abcdefg"[k]) for k in range(7)))
RING_OF_SIX = (TEN[:6], tuple((f"r{k}", TEN[k], TEN[(k + 1) % 6]) for k in range(6)))
WRONG_REPORTS = [
    [("a", "e", 1)], (["a", "e", 1],), ("a", "e", 1), (("a", "e"),), (("a", "e", 1, 1),), (("a", "f", 1),),
    (("a", "e", 101),), (("a", "e", -1),), (("a", "e", True),), (("a", "e", None),), (("a", "e", "1"),),
    (("a", ("e",), 1),), ((None, "e", 1),), (("a", Touchy(), 1),), (("a", "e", Touchy()),), (Touchy(),),
    (("a", "e", 1), ("a", "e", False)), (("a", "e", 1),) * 31, {("a", "e", 1)}, (("A", "e", 1),), (("r", "s", 1),),
    (("a", "e", 10 ** 59),), (("a", "e", 1), None),
]


def some_reports(web, step):
    """Reports that some rota fits, reports that only some of them fit, and such as no rota fits."""
    found = [()]
    rotas = all_rotas(web)
    for at, rota in enumerate(rotas[::step]):
        table = slow_table(web, rota)
        told = [
            (place, other, table[i][j]) for i, place in enumerate(web[0]) for j, other in enumerate(web[0])
            if table[i][j] is not None
        ]
        chosen = tuple(told[(5 * k + at) % len(told)] for k in range(1 + at % 5))
        found.append(chosen)
        place, other, day = chosen[-1]
        found.append(chosen + ((place, other, day + 1),))
        found.append(chosen[1:] + ((web[0][-1], web[0][0], 2), (web[0][0], web[0][at % len(web[0])], 1)))
    return found


def meets(web, table, report):
    place, other, day = report
    return table[web[0].index(place)][web[0].index(other)] == day


class Fitting(unittest.TestCase):
    def test_by_hand(self):
        self.assertEqual(fitting_rotas(T, (("a", "e", 1), ("a", "d", 1), ("e", "d", 2))), [("r", "s", "t", "u")])
        self.assertEqual(fitting_rotas(T, (("a", "e", 3), ("d", "e", 1))), [("t", "u", "s", "r")])
        self.assertEqual(fitting_rotas(T, (("a", "e", 3), ("e", "a", 2))), [])
        self.assertEqual(fitting_rotas(ALONE, ()), [()])
        self.assertEqual(fitting_rotas(ALONE, (("a", "a", 0),) * 30), [()])
        self.assertEqual(fitting_rotas(ALONE, (("a", "a", 1),)), [])
        self.assertEqual(fitting_rotas(APART, (("a", "b", 0),)), [])
        self.assertEqual(fitting_rotas(APART, (("a", "b", 1),)), [])
        self.assertEqual(fitting_rotas(APART, ()), [()])
        self.assertIs(fits(T, ROTA, (("a", "e", 1), ("e", "a", 3), ("c", "c", 0))), True)
        self.assertIs(fits(T, ROTA, (("a", "e", 1), ("e", "a", 2))), False)
        self.assertIs(fits(T, ROTA, (("c", "c", 1),)), False)
        self.assertIs(fits(T, ROTA, (("a", "e", 0),)), False)
        self.assertIs(fits(T, ROTA, (("a", "e", 100),)), False)
        self.assertIs(fits(APART, (), (("a", "b", 0),)), False)

    def test_all_rotas_of_small_webs(self):
        for web in small_webs()[::41] + [T, STAR, TRIANGLE, RING_AND_PIECE, PARALLEL]:
            tables = {rota: slow_table(web, rota) for rota in all_rotas(web)}
            for reports in some_reports(web, 5):
                fitting = [rota for rota in tables if all(meets(web, tables[rota], one) for one in reports)]
                self.assertEqual(fitting_rotas(web, reports), sorted({first_alike(web, rota) for rota in fitting}))
                for rota in all_rotas(web)[::3]:
                    self.assertIs(fits(web, rota, reports), rota in fitting)

    def test_names_compare_and_not_numbers(self):
        found = fitting_rotas(STAR, ())
        self.assertEqual(len(found), 24)
        self.assertEqual(found, sorted(found))
        self.assertEqual(found[0], ("o", "p", "q", "s"))
        # Each is the first of those alike by the numbers of the roads, and they are sorted by the names.
        self.assertEqual(fitting_rotas(LINE, ()), sorted({first_alike(LINE, rota) for rota in all_rotas(LINE)}))
        self.assertEqual(fitting_rotas(LINE, ())[0], ("j", "n", "m", "l", "k"))

    def test_six_roads_and_seven(self):
        self.assertEqual(len(fitting_rotas(STAR_OF_SIX, ())), 720)
        self.assertEqual(len(fitting_rotas(STAR_OF_SIX, (("a", "b", 1), ("b", "c", 1)))), 120)
        self.assertEqual(fitting_rotas(RING_OF_SIX, (("a", "d", 3), ("d", "a", 3))), [])
        for call in [fitting_rotas, sure_orders, fault_of]:
            self.assertRaises(TooMany, call, STAR_OF_SEVEN, ())
            self.assertRaises(BadReports, call, STAR_OF_SEVEN, (("a", "b", 101),))
        self.assertRaises(TooMany, fitting_rotas, (("a", "b"), FOURTEEN_PARALLEL[1][:7]), ())
        self.assertEqual(len(fitting_rotas((("a", "b"), FOURTEEN_PARALLEL[1][:6]), ())), 720)
        names = names_of(LINE_OF_TEN)
        self.assertIs(fits(LINE_OF_TEN, names, (("a", "j", 1), ("j", "a", 9))), True)

    def test_thirty_reports_and_a_hundred_days(self):
        self.assertIs(fits(T, ROTA, (("a", "e", 1),) * 30), True)
        self.assertIs(fits(T, ROTA, (("a", "e", 1),) * 29 + (("a", "e", 100),)), False)
        for thing in odd_things() + WRONG_REPORTS:
            self.assertRaises(BadReports, fits, T, ROTA, thing)
            for call in [fitting_rotas, sure_orders, fault_of]:
                self.assertRaises(BadReports, call, T, thing)
        self.assertRaises(BadReports, fits, T, ROTA, (("a", "e", 1),) * 31)
        self.assertRaises(BadRota, fits, T, ("r",), None)
        self.assertRaises(BadWeb, fits, None, None, None)


class Sure(unittest.TestCase):
    def test_by_hand(self):
        self.assertEqual(sure_orders(T, (("a", "e", 1),)), [("b", "r", "s"), ("c", "s", "u")])
        self.assertEqual(sure_orders(T, (("a", "e", 2),)), [])
        self.assertIsNone(sure_orders(T, (("a", "e", 4),)))
        self.assertEqual(sure_orders(T, (("e", "d", 1), ("b", "e", 1))), [
            ("c", "s", "t"), ("c", "s", "u"), ("c", "u", "t"),
        ])
        self.assertEqual(sure_orders(ALONE, ()), [])
        self.assertIsNone(sure_orders(ALONE, (("a", "a", 1),)))

    def test_all_rotas_of_small_trees(self):
        for web in small_trees()[::2] + [T, STAR, LINE]:
            tables = {rota: slow_table(web, rota) for rota in all_rotas(web)}
            for reports in some_reports(web, 7):
                fitting = [rota for rota in tables if all(meets(web, tables[rota], one) for one in reports)]
                expected = sorted(
                    (place, one, two) for place, names in zip(web[0], slow_orders(web, names_of(web)))
                    for one in names for two in names
                    if one != two and all(rota.index(one) < rota.index(two) for rota in fitting)
                )
                self.assertEqual(sure_orders(web, reports), expected if fitting else None)

    def test_trees_are_wanted(self):
        for call in [sure_orders, fault_of]:
            for web in [APART, PARALLEL, TRIANGLE, RING_AND_PIECE]:
                self.assertRaises(BadTree, call, web, None)
            self.assertRaises(BadWeb, call, list(T), None)
            self.assertRaises(BadTree, call, FOURTEEN_PARALLEL, ())


class Parting(unittest.TestCase):
    def test_by_hand(self):
        self.assertIsNone(parting_pair(T, ROTA, ROTA))
        self.assertEqual(parting_pair(T, ROTA, ("r", "s", "u", "t")), ("d", "e"))
        self.assertEqual(parting_pair(T, ROTA, ("s", "r", "t", "u")), ("a", "c"))
        self.assertIsNone(parting_pair(T, ROTA, ("r", "s", "t", "u")))
        self.assertIsNone(parting_pair(ALONE, (), ()))
        self.assertIsNone(parting_pair(APART, (), ()))
        self.assertIsNone(parting_pair(PARALLEL, ("p", "q"), ("q", "p")))

    def test_all_rotas_of_small_webs(self):
        for web in small_webs()[::37] + [T, TRIANGLE, RING_AND_PIECE, SQUARE]:
            rotas = all_rotas(web)[::4]
            for rota in rotas[::3]:
                for other in rotas:
                    first, second = slow_table(web, rota), slow_table(web, other)
                    pairs = [
                        (web[0][i], web[0][j]) for i in range(len(web[0])) for j in range(len(web[0]))
                        if first[i][j] != second[i][j]
                    ]
                    self.assertEqual(parting_pair(web, rota, other), pairs[0] if pairs else None)

    def test_errors(self):
        self.assertRaises(BadRota, parting_pair, T, ROTA, ("r", "s", "t"))
        self.assertRaises(BadRota, parting_pair, T, list(ROTA), ROTA)


class Questions(unittest.TestCase):
    def test_by_hand(self):
        self.assertEqual(best_question(T, [ROTA, ROTA]), ("a", "b", [(1, 2)]))
        self.assertEqual(best_question(T, (ROTA, ("r", "s", "u", "t"))), ("d", "e", [(1, 1), (2, 1)]))
        self.assertEqual(best_question(ALONE, [(), (), ()]), ("a", "a", [(0, 3)]))
        self.assertEqual(best_question(APART, ((), ())), ("a", "b", [(None, 2)]))

    def test_groups_against_all_pairs(self):
        for web in small_webs()[::29] + [T, STAR, TRIANGLE, RING_AND_PIECE, SQUARE]:
            every = all_rotas(web)
            for rotas in [every[:2], every[::5] * 2, every[-9:], some_rotas(web) * 2, every[:1] * 4, every[::7] * 3]:
                if len(rotas) < 2:
                    continue
                tables = [slow_table(web, rota) for rota in rotas]
                pairs = [(i, j) for i in range(len(web[0])) for j in range(len(web[0])) if i != j]
                counted = [[table[i][j] for table in tables] for i, j in pairs]
                sizes = [max(column.count(day) for day in column) for column in counted]
                if pairs:
                    at = sizes.index(min(sizes))
                    column = counted[at]
                    days = sorted(set(column), key=lambda day: (day is not None, day))
                    expected = (web[0][pairs[at][0]], web[0][pairs[at][1]], [(day, column.count(day)) for day in days])
                else:
                    expected = (web[0][0], web[0][0], [(0, len(rotas))])
                self.assertEqual(best_question(web, rotas), expected)
                self.assertEqual(best_question(web, tuple(rotas)), expected)

    def test_never_stands_ahead_of_integers(self):
        # What is None is so by every rota, so it stands in a group of its own alone.
        web = (("a", "b", "c"), (("x", "b", "c"), ("y", "b", "c")))
        self.assertEqual(best_question(web, [("x", "y"), ("y", "x")]), ("a", "b", [(None, 2)]))

    def test_many_rotas(self):
        rotas = all_rotas(STAR_OF_SIX)
        found = best_question(STAR_OF_SIX, rotas)
        self.assertEqual(found, ("a", "b", [(1, 360), (2, 360)]))
        self.assertEqual(best_question(LINE_OF_TEN, [names_of(LINE_OF_TEN)] * 40), ("a", "b", [(1, 40)]))

    def test_wrong_rotas(self):
        for thing in odd_things() + [
            [ROTA], (ROTA,), (), ROTA, [ROTA, list(ROTA)], [ROTA, None], [ROTA, ROTA[1:]], (ROTA, ROTA + ("r",)),
            [None, ROTA], {ROTA: ROTA, ROTA[::-1]: 1}, {ROTA, ROTA[::-1]}, [[ROTA, ROTA]], [ROTA, Touchy()], "rstu",
            [ROTA, ("r", "s", "t", "v")], (ROTA, "rstu"), [ROTA, ("r", "s", "t", "t")], [(), ()], iter([ROTA, ROTA]),
        ]:
            self.assertRaises(BadRotas, best_question, T, thing)
        self.assertRaises(BadWeb, best_question, None, None)
        self.assertRaises(BadRotas, best_question, ALONE, [()])
        self.assertRaises(BadRotas, best_question, ALONE, [])


class Faults(unittest.TestCase):
    def test_by_hand(self):
        self.assertIsNone(fault_of(T, ()))
        self.assertIsNone(fault_of(T, (("a", "e", 1), ("e", "a", 3))))
        self.assertEqual(fault_of(T, (("a", "e", 1), ("e", "a", 3), ("a", "e", 2))), (0, 2))
        self.assertEqual(fault_of(T, (("a", "e", 1), ("b", "b", 1), ("a", "e", 2))), (1,))
        self.assertEqual(fault_of(T, (("d", "d", 0), ("a", "e", 4), ("b", "c", 2))), (1,))
        self.assertEqual(fault_of(ALONE, (("a", "a", 0), ("a", "a", 1))), (1,))
        self.assertIsNone(fault_of(ALONE, (("a", "a", 0),)))

    def test_only_some_together(self):
        # Of each two of these some rota fits both, and none fits all three: they go round at the middle of the star.
        turn = (("d", "c", 1), ("c", "b", 1), ("b", "d", 1))
        self.assertEqual(fault_of(STAR, turn), (0, 1, 2))
        self.assertEqual(fault_of(STAR, (("m", "d", 1),) + turn + (("a", "b", 1),)), (1, 2, 3))
        four = (("d", "c", 1), ("c", "b", 1), ("b", "a", 1), ("a", "d", 1))
        self.assertEqual(fault_of(STAR, four), (0, 1, 2, 3))
        self.assertEqual(fault_of(STAR, four + turn[2:]), (0, 1, 4))

    def test_all_sets_of_reports(self):
        for web in small_trees()[::3] + [T, STAR, LINE]:
            tables = [slow_table(web, rota) for rota in all_rotas(web)]
            for reports in some_reports(web, 7):
                met = [{k for k, one in enumerate(reports) if meets(web, table, one)} for table in tables]
                failing = [
                    chosen for many in range(len(reports) + 1) for chosen in combinations(range(len(reports)), many)
                    if not any(set(chosen) <= one for one in met)
                ]
                self.assertEqual(fault_of(web, reports), failing[0] if failing else None)

    def test_ten_reports_and_eleven(self):
        ten = (("a", "b", 1), ("b", "c", 1), ("c", "d", 1), ("d", "e", 1), ("e", "f", 1)) * 2
        self.assertIsNone(fault_of(STAR_OF_SIX, ten))
        self.assertEqual(fault_of(STAR_OF_SIX, ten[:9] + (("f", "a", 1),)), (0, 1, 2, 3, 4, 9))
        self.assertRaises(TooMany, fault_of, STAR_OF_SIX, ten + ten[:1])
        self.assertRaises(TooMany, fault_of, ALONE, (("a", "a", 0),) * 11)
        self.assertIsNone(fault_of(ALONE, (("a", "a", 0),) * 10))
        self.assertRaises(TooMany, fault_of, ALONE, (("a", "a", 0),) * 30)
        self.assertRaises(BadReports, fault_of, ALONE, (("a", "a", 0),) * 31)
        self.assertRaises(BadReports, fault_of, ALONE, (("a", "a", 0),) * 11 + (("a", "b", 0),))


if __name__ == "__main__":
    unittest.main()
