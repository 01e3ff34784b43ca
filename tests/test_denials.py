import unittest

from roundpost.denials import beliefs, lags, last_belief, same_days
from roundpost.errors import BadMoment, BadPlace
from roundpost.webs import is_tree
from samples import (
    ALONE, APART, FIVE_PAIRS, FOURTEEN_PARALLEL, FOURTEEN_ROADS, LINE, LINE_OF_TEN, PARALLEL, RING_AND_PIECE, SQUARE,
    STAR, T, TRIANGLE, WEBS, all_rotas, names_of, small_webs, some_rotas, some_weeks,
)
from slow import simple_ways, slow_moments, slow_spread

ROTA = ("r", "s", "t", "u")
WEEK = (ROTA,)


class Beliefs(unittest.TestCase):
    def test_by_hand(self):
        self.assertEqual(beliefs(T, WEEK, "e", (1, 0), "a", (1, 0)), [
            None, None, None, None, ((1, 0), (1, 4)),
        ])
        self.assertEqual(last_belief(T, WEEK, "e", (1, 0), "a", (1, 0)), (1, 4))
        self.assertEqual(beliefs(T, WEEK, "e", (1, 0), "e", (1, 4)), [
            ((3, 1), (4, 1)), ((2, 2), (3, 2)), ((1, 4), (2, 4)), ((2, 3), (3, 3)), ((1, 0), (1, 4)),
        ])
        self.assertEqual(last_belief(T, WEEK, "e", (1, 0), "e", (1, 4)), (4, 1))
        self.assertEqual(beliefs(T, WEEK, "e", (1, 0), "a", (2, 2)), [
            None, ((2, 2), (3, 1)), ((1, 4), (3, 2)), ((2, 3), (3, 3)), ((1, 0), (3, 4)),
        ])

    def test_the_same_place_and_moment(self):
        self.assertEqual(beliefs(T, WEEK, "c", (3, 2), "c", (3, 2)), [None] * 5)
        self.assertEqual(last_belief(T, WEEK, "c", (3, 2), "c", (3, 2)), (3, 2))

    def test_the_denial_is_earlier(self):
        self.assertEqual(beliefs(T, WEEK, "c", (3, 2), "c", (3, 1)), [None] * 5)
        self.assertEqual(last_belief(T, WEEK, "c", (3, 2), "c", (3, 1)), (3, 1))
        self.assertEqual(last_belief(T, WEEK, "a", (9, 1), "c", (2, 4)), (2, 4))

    def test_the_denial_never_comes(self):
        self.assertEqual(beliefs(APART, ((),), "a", (1, 0), "b", (1, 0)), [((1, 0), None), None])
        self.assertIsNone(last_belief(APART, ((),), "a", (1, 0), "b", (1, 0)))
        week = (("r",), ("t",))
        self.assertEqual(beliefs(T, week, "a", (1, 0), "c", (1, 0)), [((1, 0), None), ((1, 1), None), None, None, None])
        self.assertIsNone(last_belief(T, week, "a", (1, 0), "c", (1, 0)))

    def test_one_place_alone(self):
        self.assertEqual(beliefs(ALONE, ((),), "a", (1, 0), "a", (2, 0)), [((1, 0), (2, 0))])
        self.assertEqual(last_belief(ALONE, ((),), "a", (1, 0), "a", (2, 0)), (2, 0))
        self.assertEqual(beliefs(ALONE, ((),), "a", (2, 0), "a", (1, 0)), [None])
        self.assertEqual(last_belief(ALONE, ((),), "a", (2, 0), "a", (1, 0)), (1, 0))

    def test_the_end_of_a_day_and_the_next_dawn(self):
        self.assertEqual(beliefs(T, WEEK, "a", (1, 4), "a", (2, 0)), [((1, 4), (2, 0))] + [None] * 4)
        self.assertEqual(beliefs(T, WEEK, "a", (1000000, 0), "a", (1000000, 4)), [
            ((1000000, k), (1000001 if k else 1000000, k or 4)) for k in range(5)
        ])

    def test_against_walks_one_by_one(self):
        for web in WEBS[:8] + small_webs()[::29]:
            for week in some_weeks(web):
                moments = slow_moments(week, 1, 2)[::3] + [(1000000, 0)]
                for moment in moments:
                    for later in moments[::2]:
                        for place in web[0][::2]:
                            for other in web[0][::-2]:
                                self.check(web, week, place, moment, other, later)

    def check(self, web, week, place, moment, other, later):
        news = slow_spread(web, week, place, moment)
        denial = slow_spread(web, week, other, later)
        expected = []
        for one in web[0]:
            if one not in news or one in denial and denial[one] <= news[one]:
                expected.append(None)
            else:
                expected.append((news[one], denial.get(one)))
        self.assertEqual(beliefs(web, week, place, moment, other, later), expected)
        untils = [span[1] for span in expected if span is not None]
        last = None if None in untils else max(untils) if untils else min(moment, later)
        self.assertEqual(last_belief(web, week, place, moment, other, later), last)

    def test_errors_in_their_sequence(self):
        for call in [beliefs, last_belief]:
            self.assertRaises(BadPlace, call, T, WEEK, "f", (0, 0), "f", (0, 0))
            self.assertRaises(BadMoment, call, T, WEEK, "a", (1, 5), "f", (0, 0))
            self.assertRaises(BadPlace, call, T, WEEK, "a", (1, 4), "f", (0, 0))
            self.assertRaises(BadMoment, call, T, WEEK, "a", (1, 4), "e", (1, 5))


class Lags(unittest.TestCase):
    def test_by_hand(self):
        self.assertEqual(lags(T, ROTA, "e", (1, 0), (1, 3)), [0, 0, 0, 0, 0])
        self.assertEqual(lags(T, ROTA, "e", (1, 0), (1, 4)), [1, 1, 1, 1, 0])
        self.assertEqual(lags(T, ROTA, "c", (1, 0), (1, 2)), [1, 1, 0, 0, 0])
        self.assertEqual(lags(T, ROTA, "c", (1, 0), (1, 3)), [1, 1, 0, 1, 0])
        self.assertEqual(lags(T, ROTA, "a", (1, 4), (2, 0)), [1, 0, 0, 0, 0])
        self.assertEqual(lags(APART, (), "b", (3, 0), (7, 0)), [None, 4])
        self.assertEqual(lags(ALONE, (), "a", (1, 0), (1000000, 0)), [999999])

    def test_against_walks_one_by_one(self):
        for web in WEBS:
            for rota in some_rotas(web)[:2]:
                moments = slow_moments((rota,), 1, 3)[::4] + [(1000000, len(rota))]
                for moment in moments:
                    for later in moments:
                        for place in web[0][::3]:
                            if later < moment:
                                self.assertRaises(BadMoment, lags, web, rota, place, moment, later)
                                continue
                            first = slow_spread(web, (rota,), place, moment)
                            second = slow_spread(web, (rota,), place, later)
                            self.assertEqual(lags(web, rota, place, moment, later), [
                                second[one][0] - first[one][0] if one in first else None for one in web[0]
                            ])

    def test_whole_days_later(self):
        for web in [T, SQUARE, TRIANGLE, RING_AND_PIECE, FIVE_PAIRS]:
            for rota in some_rotas(web):
                for walks in range(len(rota) + 1):
                    for more in [0, 1, 5, 999999]:
                        found = lags(web, rota, web[0][0], (1, walks), (1 + more, walks))
                        self.assertLessEqual(set(found), {more, None})
                        self.assertEqual(found[0], more)

    def test_on_the_same_day(self):
        for web in [T, STAR, LINE, LINE_OF_TEN, SQUARE, FOURTEEN_ROADS]:
            for rota in some_rotas(web):
                for place in web[0][::2]:
                    begins = {end: names[:1] for names, end in simple_ways(web, place)}
                    for walks in range(len(rota) + 1):
                        found = lags(web, rota, place, (5, 0), (5, walks))
                        self.assertLessEqual(set(found), {0, 1})
                        if is_tree(web):
                            heads = {(begins[one], lag) for one, lag in zip(web[0], found)}
                            self.assertEqual(len(heads), len(set(begins.values())))

    def test_the_second_is_earlier(self):
        for moment, later in [((1, 1), (1, 0)), ((2, 0), (1, 4)), ((1000000, 0), (1, 0)), ((2, 3), (2, 2))]:
            self.assertRaises(BadMoment, lags, T, ROTA, "a", moment, later)
            self.assertRaises(BadMoment, lags, ALONE, (), "a", (2, 0), (1, 0))
        self.assertEqual(lags(T, ROTA, "a", (2, 3), (2, 3)), [0] * 5)


class SameDays(unittest.TestCase):
    def test_by_hand(self):
        self.assertEqual(same_days(T, ROTA, "e"), [(0, 1, 2, 3), (4,)])
        self.assertEqual(same_days(T, ROTA, "c"), [(0, 1), (2,), (3,), (4,)])
        self.assertEqual(same_days(T, ROTA, "a"), [(0,), (1, 2, 3, 4)])
        self.assertEqual(same_days(ALONE, (), "a"), [(0,)])
        self.assertEqual(same_days(APART, (), "b"), [(0,)])
        self.assertEqual(same_days(PARALLEL, ("p", "q"), "a"), [(0, 1), (2,)])
        self.assertEqual(same_days(FOURTEEN_PARALLEL, names_of(FOURTEEN_PARALLEL), "b"), [tuple(range(14)), (14,)])

    def test_all_numbers(self):
        for web in WEBS + small_webs()[::13]:
            for rota in some_rotas(web) if len(web[1]) > 3 else all_rotas(web):
                for place in web[0][::2]:
                    come = []
                    for walks in range(len(rota) + 1):
                        known = slow_spread(web, (rota,), place, (1, walks))
                        come.append([known[one][0] if one in known else None for one in web[0]])
                    found = same_days(web, rota, place)
                    self.assertEqual([walks for one in found for walks in one], list(range(len(rota) + 1)))
                    for one in found:
                        self.assertIs(type(one), tuple)
                        self.assertTrue(all(come[walks] == come[one[0]] for walks in one))
                    for one, other in zip(found, found[1:]):
                        self.assertNotEqual(come[one[0]], come[other[0]])


if __name__ == "__main__":
    unittest.main()
