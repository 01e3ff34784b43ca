import unittest
from itertools import combinations
from math import comb

from roundpost.errors import BadCount, BadPlace, BadSnow, TooMany
from roundpost.news import arrivals, days
from roundpost.snow import snow_arrivals, snow_days, worst_snow
from samples import (
    ALONE, APART, FIVE_PAIRS, FOURTEEN_PARALLEL, FOURTEEN_ROADS, LINE, LINE_OF_TEN, LONG_NAMES, PARALLEL,
    RING_AND_PIECE, SQUARE, STAR, T, TEN, TRIANGLE, WEBS, Touchy, all_rotas, names_of, odd_things, small_trees,
    small_webs, some_rotas, some_weeks,
)
from slow import slow_arrivals, slow_moments, slow_spread

ROTA = ("r", "s", "t", "u")
WEEK = (ROTA,)
EIGHT = tuple((day, name) for day in (1000, 1) for name in ROTA)


class InSnow(unittest.TestCase):
    def test_by_hand(self):
        self.assertEqual(snow_arrivals(T, WEEK, "a", (1, 0), ((1, "s"),)), [(1, 0), (1, 1), (2, 2), (2, 3), (2, 4)])
        self.assertEqual(snow_arrivals(T, WEEK, "a", (1, 0), ((2, "t"), (1, "t"))), [
            (1, 0), (1, 1), (1, 2), (3, 3), (1, 4),
        ])
        self.assertEqual(snow_days(T, ROTA, "a", "e", ((1, "s"),)), 2)
        self.assertEqual(snow_days(T, ROTA, "a", "e", ((1, "s"), (2, "u"), (1, "r"))), 3)
        self.assertEqual(snow_days(T, ROTA, "a", "a", ((1, "s"),)), 0)
        self.assertIsNone(snow_days(APART, (), "a", "b", ()))

    def test_no_entry_and_eight(self):
        self.assertEqual(snow_arrivals(T, WEEK, "e", (1, 0), ()), arrivals(T, WEEK, "e", (1, 0)))
        self.assertEqual(snow_days(T, ROTA, "e", "a", ()), 3)
        self.assertEqual(snow_arrivals(T, WEEK, "a", (1, 0), EIGHT), [(1, 0), (2, 1), (2, 2), (2, 3), (2, 4)])
        falls = tuple((day, "r") for day in range(1, 9))
        self.assertEqual(snow_arrivals(T, WEEK, "a", (1, 0), falls)[1], (9, 1))
        self.assertEqual(snow_days(T, ROTA, "a", "b", falls[::-1]), 9)

    def test_entries_of_no_walk(self):
        week = (("r", "s"), ("t", "u"))
        self.assertEqual(snow_arrivals(T, week, "a", (1, 0), ((2, "r"), (1, "t"))), arrivals(T, week, "a", (1, 0)))
        self.assertEqual(snow_arrivals(T, week, "a", (1, 0), ((2, "t"), (4, "t"), (999, "r")))[3], (6, 1))
        self.assertEqual(snow_arrivals(T, (("r",),), "a", (1, 0), ((1, "u"),))[4], None)

    def test_the_last_day_of_snow(self):
        snow = ((1000, "r"), (999, "r"))
        self.assertEqual(snow_arrivals(T, WEEK, "a", (999, 0), snow)[1], (1001, 1))
        self.assertEqual(snow_arrivals(T, WEEK, "a", (1000, 1), snow)[1], (1001, 1))
        self.assertEqual(snow_arrivals(T, WEEK, "a", (1000000, 4), snow)[1], (1000001, 1))

    def test_weeks_in_which_a_road_is_rarely_walked(self):
        week = ((), ("s",), (), ("r",))
        snow = tuple((day, "r") for day in range(4, 36, 4))
        self.assertEqual(snow_arrivals(T, week, "a", (1, 0), snow)[:3], [(1, 0), (36, 1), (38, 1)])

    def test_against_walks_one_by_one(self):
        for web in WEBS + small_webs()[::31]:
            for week in some_weeks(web):
                for at, snow in enumerate(self.snows(web)):
                    for moment in slow_moments(week, 1, 2)[at::7]:
                        for place in web[0][::3]:
                            expected = slow_arrivals(web, week, place, moment, snow)
                            self.assertEqual(snow_arrivals(web, week, place, moment, snow), expected)

    def snows(self, web):
        names = names_of(web)
        return [
            (), tuple((1, name) for name in names[:8][::-1]),
            tuple((2 - k % 2, name) for k, name in enumerate(names[:7])),
            tuple((day, names[0]) for day in range(1, 9) if names),
        ]

    def test_at_most_as_many_days_later(self):
        for web in [T, SQUARE, FOURTEEN_ROADS, LINE_OF_TEN]:
            for rota in some_rotas(web):
                for snow in self.snows(web):
                    for place in web[0][::2]:
                        for other in web[0]:
                            without = days(web, (rota,), place, other)
                            found = snow_days(web, rota, place, other, snow)
                            self.assertLessEqual(found, without + len(snow))
                            self.assertGreaterEqual(found, without)

    def test_the_same_in_any_sequence(self):
        snow = ((1, "s"), (2, "u"), (1, "r"), (3, "s"))
        for chosen in [snow, snow[::-1], snow[2:] + snow[:2], tuple(sorted(snow))]:
            self.assertEqual(snow_days(T, ROTA, "a", "e", chosen), snow_days(T, ROTA, "a", "e", snow))

    def test_wrong_snow(self):
        for thing in odd_things() + [
            [(1, "r")], ([1, "r"],), (1, "r"), ((1, "r"), (1, "r")), ((0, "r"),), ((1001, "r"),), ((-1, "r"),),
            ((1, "x"),), ((1, "a"),), ((True, "r"),), ((None, "r"),), ((1, None),), (("1", "r"),), (("r", 1),), ((1,),),
            ((1, "r", 0),), EIGHT + ((2, "r"),), ((10 ** 59, "r"),), ((1, ("r",)),), ((1, Touchy()),),
            ((Touchy(), "r"),), (Touchy(),), {(1, "r")}, {(1, "r"): True}, ("1r",), ((1, b"r"),), ((1, "r"), None),
            EIGHT[:7] + (EIGHT[0],),
        ]:
            self.assertRaises(BadSnow, snow_arrivals, T, WEEK, "a", (1, 0), thing)
            self.assertRaises(BadSnow, snow_days, T, ROTA, "a", "e", thing)
            self.assertRaises(BadSnow, snow_days, T, ROTA, "a", "a", thing)
        self.assertRaises(BadSnow, snow_days, ALONE, (), "a", "a", ((1, "r"),))
        self.assertRaises(BadPlace, snow_days, T, ROTA, "a", "f", None)


class WorstSnow(unittest.TestCase):
    def test_by_hand(self):
        self.assertEqual(worst_snow(T, ROTA, "a", "e", 0), (1, ()))
        self.assertEqual(worst_snow(T, ROTA, "a", "e", 1), (2, ((1, "r"),)))
        self.assertEqual(worst_snow(T, ROTA, "a", "e", 2), (3, ((1, "r"), (2, "r"))))
        self.assertEqual(worst_snow(T, ROTA, "e", "a", 1), (4, ((1, "u"),)))
        self.assertEqual(worst_snow(PARALLEL, ("q", "p"), "a", "b", 1), (1, ((1, "p"),)))
        self.assertEqual(worst_snow(PARALLEL, ("q", "p"), "a", "b", 2), (2, ((1, "p"), (1, "q"))))
        self.assertEqual(worst_snow(PARALLEL, ("q", "p"), "a", "b", 3), (2, ((1, "p"), (1, "q"), (2, "p"))))

    def test_never(self):
        for count in range(4):
            self.assertEqual(worst_snow(APART, (), "a", "b", count), (None, ()))
            self.assertEqual(worst_snow(FIVE_PAIRS, names_of(FIVE_PAIRS), "a", "b", count), (None, ()))

    def test_all_choices(self):
        webs = [one for one in small_webs() if len(one[1]) < 4][::23]
        for web in webs + [T, TRIANGLE, RING_AND_PIECE, SQUARE, STAR, LINE]:
            for rota in (all_rotas(web) if len(web[1]) < 4 else some_rotas(web))[:3]:
                for place, other in [(web[0][0], web[0][-1]), (web[0][-1], web[0][0])]:
                    for count in range(3 if len(web[1]) > 3 else 4):
                        if place != other:
                            self.check(web, rota, place, other, count)
        self.check(PARALLEL, ("q", "p"), "b", "a", 3)

    def check(self, web, rota, place, other, count):
        known = slow_spread(web, (rota,), place, (1, 0), (), 10)
        if other not in known:
            self.assertEqual(worst_snow(web, rota, place, other, count), (None, ()))
            return
        walks = sorted((day, name) for day in range(1, known[other][0] + count + 1) for name in rota)
        found = {}
        for snow in combinations(walks, count):
            day = slow_spread(web, (rota,), place, (1, 0), snow, 10)[other][0]
            found.setdefault(day, []).append(snow)
        self.assertEqual(worst_snow(web, rota, place, other, count), (max(found), min(found[max(found)])))

    def test_the_days_and_the_count_in_trees(self):
        for web in small_trees() + [LONG_NAMES]:
            for rota in some_rotas(web):
                for other in web[0][1:]:
                    for count in range(3):
                        day = days(web, (rota,), web[0][0], other) + count
                        self.assertEqual(worst_snow(web, rota, web[0][0], other, count)[0], day)

    def test_ten_thousand_choices(self):
        ten = (("a", "b"), FOURTEEN_PARALLEL[1][:10])
        self.assertEqual(comb(40, 3), 9880)
        self.assertEqual(worst_snow(ten, names_of(ten), "a", "b", 3), (1, ((1, "r0"), (1, "r1"), (1, "r2"))))
        eleven = (("a", "b"), FOURTEEN_PARALLEL[1][:11])
        self.assertEqual(comb(44, 3), 13244)
        self.assertRaises(TooMany, worst_snow, eleven, names_of(eleven), "a", "b", 3)
        # A line of nine days the one way, with four roads more that change nothing: 13 walks on each of 11 days.
        line = (TEN, LINE_OF_TEN[1] + tuple((f"p{k}", TEN[k], TEN[k + 1]) for k in range(4)))
        rota = tuple(name for k in range(8, -1, -1) for name in (f"r{k}", f"p{k}") if name in names_of(line))
        self.assertEqual(days(line, (rota,), "a", "j"), 9)
        self.assertEqual(comb(13 * 11, 2), 10153)
        self.assertRaises(TooMany, worst_snow, line, rota, "a", "j", 2)
        self.assertEqual(worst_snow(line, rota, "a", "j", 1)[0], 10)
        # From b it is a day less: 13 walks on each of 10 days.
        self.assertEqual(worst_snow(line, rota, "b", "j", 2)[0], 10)
        fourteen = (TEN, line[1] + (("p4", "e", "f"),))
        rota = tuple(name for k in range(8, -1, -1) for name in (f"r{k}", f"p{k}") if name in names_of(fourteen))
        self.assertEqual(days(fourteen, (rota,), "b", "j"), 8)
        self.assertEqual(comb(14 * 10, 2), 9730)
        self.assertEqual(worst_snow(fourteen, rota, "b", "j", 2)[0], 10)
        self.assertRaises(TooMany, worst_snow, fourteen, rota, "a", "j", 2)
        self.assertRaises(TooMany, worst_snow, fourteen, rota, "a", "j", 3)

    def test_names_compare_as_texts(self):
        names = names_of(FOURTEEN_PARALLEL)
        self.assertEqual(worst_snow(FOURTEEN_PARALLEL, names[::-1], "a", "b", 2), (1, ((1, "r0"), (1, "r1"))))
        self.assertEqual(worst_snow((("a", "b"), FOURTEEN_PARALLEL[1][8:12]), names[8:12], "a", "b", 3), (
            1, ((1, "r10"), (1, "r11"), (1, "r8")),
        ))

    def test_the_same_place_and_wrong_counts(self):
        for web in [T, ALONE, APART]:
            self.assertRaises(BadPlace, worst_snow, web, names_of(web), "a", "a", 0)
            self.assertRaises(BadPlace, worst_snow, web, names_of(web), "a", "a", None)
        for count in [-1, 4, 10 ** 59, True, False, None, "1", (1,), [1], Touchy(), b"1"]:
            self.assertRaises(BadCount, worst_snow, T, ROTA, "a", "e", count)
            self.assertRaises(BadCount, worst_snow, APART, (), "a", "b", count)
            self.assertRaises(BadPlace, worst_snow, T, ROTA, "a", "f", count)
        self.assertRaises(BadCount, worst_snow, FOURTEEN_ROADS, names_of(FOURTEEN_ROADS), "a", "b", 4)
        self.assertEqual(worst_snow(LONG_NAMES, ("z9999999",), "abcdefgh", "z0123456", 3), (
            4, ((1, "z9999999"), (2, "z9999999"), (3, "z9999999")),
        ))


if __name__ == "__main__":
    unittest.main()
