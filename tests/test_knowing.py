import unittest

from roundpost.errors import BadCount, BadMoment, BadWeek, TooMany
from roundpost.knowing import all_known, idle_walks, known_at, lessons, needed_roads
from roundpost.webs import is_tree
from samples import (
    ALONE, APART, FIVE_PAIRS, FOURTEEN_PARALLEL, FOURTEEN_ROADS, LINE, LINE_OF_TEN, PARALLEL, RING_AND_PIECE, SQUARE,
    STAR, T, TRIANGLE, WEBS, Touchy, all_rotas, names_of, small_webs, some_rotas, some_weeks,
)
from slow import enough_days, round_on, slow_table, slow_walks

ROTA = ("r", "s", "t", "u")
WEEK = (ROTA,)


def knowledge(web, week, days):
    """The list of (moment, {place: set of places}) of all moments of these days, walk by walk."""
    ends = {name: road for name, *road in web[1]}
    known = {place: {place} for place in web[0]}
    found = []
    for day in range(1, days + 1):
        found.append(((day, 0), known))
        for k, name in enumerate(round_on(week, day)):
            both = known[ends[name][0]] | known[ends[name][1]]
            known = {place: both if place in ends[name] else known[place] for place in known}
            found.append(((day, k + 1), known))
    return found


class Known(unittest.TestCase):
    def test_by_hand(self):
        self.assertEqual(known_at(T, WEEK, (1, 0)), [("a",), ("b",), ("c",), ("d",), ("e",)])
        self.assertEqual(known_at(T, WEEK, (1, 2)), [("a", "b"), ("a", "b", "c"), ("a", "b", "c"), ("d",), ("e",)])
        self.assertEqual(known_at(T, WEEK, (1000000, 4)), [("a", "b", "c", "d", "e")] * 5)
        self.assertEqual(known_at(ALONE, ((),), (1, 0)), [("a",)])
        self.assertEqual(known_at(APART, ((),), (1000000, 0)), [("a",), ("b",)])
        self.assertEqual(all_known(T, WEEK), (3, 1))
        self.assertEqual(all_known(ALONE, ((),)), (1, 0))
        self.assertIsNone(all_known(APART, ((),)))
        self.assertIsNone(all_known(T, (("r", "t", "u"),)))
        self.assertEqual(all_known(PARALLEL, ((), ("q",))), (2, 1))

    def test_walk_by_walk(self):
        for web in WEBS + small_webs()[::17]:
            for week in some_weeks(web):
                days = enough_days(web, week)
                states = knowledge(web, week, days)
                whole = [moment for moment, known in states if all(len(one) == len(web[0]) for one in known.values())]
                self.assertEqual(all_known(web, week), whole[0] if whole else None)
                for moment, known in states[::5]:
                    self.assertEqual(known_at(web, week, moment), [tuple(sorted(known[one])) for one in web[0]])
                last = [tuple(sorted(states[-1][1][one])) for one in web[0]]
                self.assertEqual(known_at(web, week, (1000000, 0)), last)

    def test_places_are_ascending(self):
        self.assertEqual(known_at(RING_AND_PIECE, (names_of(RING_AND_PIECE),), (3, 0)), [
            ("a", "m", "z"), ("a", "m", "z"), ("a", "m", "z"), ("b", "k"), ("b", "k"),
        ])

    def test_errors(self):
        self.assertRaises(BadWeek, known_at, T, None, None)
        for moment in [(1, 5), (0, 0), (1000001, 0), [1, 0], None, (True, 0), (1, False)]:
            self.assertRaises(BadMoment, known_at, T, WEEK, moment)


class Lessons(unittest.TestCase):
    def test_by_hand(self):
        self.assertEqual(lessons(T, WEEK, 1), [
            (1, 0, "r", [("a", "b"), ("b", "a")]),
            (1, 1, "s", [("b", "c"), ("c", "a"), ("c", "b")]),
            (1, 2, "t", [("c", "d"), ("d", "a"), ("d", "b"), ("d", "c")]),
            (1, 3, "u", [("c", "e"), ("e", "a"), ("e", "b"), ("e", "c"), ("e", "d")]),
        ])
        self.assertEqual(idle_walks(T, WEEK, 1), [])
        self.assertEqual(lessons(T, WEEK, 3)[4:], [
            (2, 0, "r", [("a", "c")]), (2, 1, "s", [("b", "d"), ("b", "e")]), (2, 2, "t", [("d", "e")]),
            (3, 0, "r", [("a", "d"), ("a", "e")]),
        ])
        self.assertEqual(idle_walks(T, WEEK, 3), [(2, 3, "u"), (3, 1, "s"), (3, 2, "t"), (3, 3, "u")])

    def test_nothing_is_walked(self):
        for call in [lessons, idle_walks]:
            self.assertEqual(call(T, WEEK, 0), [])
            self.assertEqual(call(ALONE, ((),), 200), [])
            self.assertEqual(call(T, ((), ()), 200), [])
        self.assertEqual(idle_walks(T, ((), ("r",), ()), 5), [(5, 0, "r")])
        self.assertEqual(lessons(T, ((), ("r",), ()), 5), [(2, 0, "r", [("a", "b"), ("b", "a")])])

    def test_walk_by_walk(self):
        for web in WEBS + small_webs()[::17]:
            for week in some_weeks(web):
                days = enough_days(web, week)
                states = [known for moment, known in knowledge(web, week, days)]
                moments = [moment for moment, known in knowledge(web, week, days)]
                taught, idle = [], []
                for day, k, name in slow_walks(week, 1, days):
                    before, after = states[moments.index((day, k))], states[moments.index((day, k + 1))]
                    learned = sorted((one, other) for one in after for other in after[one] - before[one])
                    if learned:
                        taught.append((day, k, name, learned))
                    else:
                        idle.append((day, k, name))
                self.assertEqual(lessons(web, week, days), taught)
                self.assertEqual(idle_walks(web, week, days), idle)

    def test_lists_are_new(self):
        found = lessons(PARALLEL, (("p",),), 1)
        found[0][3].clear()
        self.assertEqual(lessons(PARALLEL, (("p",),), 1), [(1, 0, "p", [("a", "b"), ("b", "a")])])

    def test_two_thousand_walks(self):
        names = names_of(FOURTEEN_PARALLEL)
        tens = (names[:10],)
        self.assertEqual(len(idle_walks(FOURTEEN_PARALLEL, tens, 200)), 1999)
        self.assertEqual(len(lessons(FOURTEEN_PARALLEL, tens, 200)), 1)
        # 41 walks in four days: 1968 in 192 of them, and 33 or 32 in three more.
        more = (names[:12], names[:11], names[:10], names[:8])
        less = (names[:12], names[:11], names[:9], names[:9])
        for call in [lessons, idle_walks]:
            self.assertRaises(TooMany, call, FOURTEEN_PARALLEL, more, 195)
            self.assertRaises(TooMany, call, FOURTEEN_PARALLEL, (names,), 200)
            self.assertRaises(TooMany, call, FOURTEEN_PARALLEL, (names,), 143)
            self.assertEqual(call(FOURTEEN_PARALLEL, less, 1), call(FOURTEEN_PARALLEL, more, 1))
        self.assertEqual(len(idle_walks(FOURTEEN_PARALLEL, less, 195)), 1999)
        self.assertEqual(len(idle_walks(FOURTEEN_PARALLEL, more, 194)), 1990)
        self.assertEqual(len(idle_walks(FOURTEEN_PARALLEL, (names,), 142)), 1987)

    def test_wrong_counts(self):
        for call in [lessons, idle_walks]:
            for count in [-1, 201, 10 ** 59, True, False, None, "1", (1,), [1], Touchy(), b"1"]:
                self.assertRaises(BadCount, call, T, WEEK, count)
                self.assertRaises(BadWeek, call, T, list(WEEK), count)
        self.assertEqual(len(idle_walks(T, WEEK, 200)) + len(lessons(T, WEEK, 200)), 800)
        self.assertRaises(BadCount, lessons, FOURTEEN_PARALLEL, (names_of(FOURTEEN_PARALLEL),), 201)


class NeededRoads(unittest.TestCase):
    def test_by_hand(self):
        self.assertEqual(needed_roads(T, ROTA), ROTA)
        self.assertEqual(needed_roads(ALONE, ()), ())
        self.assertEqual(needed_roads(APART, ()), ())
        self.assertEqual(needed_roads(PARALLEL, ("q", "p")), ())
        self.assertEqual(needed_roads(FOURTEEN_PARALLEL, names_of(FOURTEEN_PARALLEL)), ())
        self.assertEqual(needed_roads(FIVE_PAIRS, names_of(FIVE_PAIRS)), ())
        # By x and y news from a comes to c on day 1; back without z it comes by y and x on day 2.
        self.assertEqual(needed_roads(TRIANGLE, ("x", "y", "z")), ("x", "y", "z"))
        self.assertEqual(needed_roads((("a", "b", "c"), TRIANGLE[1] + (("w", "c", "a"),)), ("x", "y", "z", "w")),
                         ("x", "y"))

    def test_ascending_by_name(self):
        self.assertEqual(needed_roads(STAR, names_of(STAR)), ("o", "p", "q", "s"))
        self.assertEqual(needed_roads(LINE_OF_TEN, names_of(LINE_OF_TEN)[::-1]), names_of(LINE_OF_TEN))

    def test_trees(self):
        for web in [one for one in WEBS + small_webs()[::7] if is_tree(one)] + [LINE]:
            for rota in some_rotas(web):
                self.assertEqual(needed_roads(web, rota), tuple(sorted(rota)))

    def test_each_road_left_out(self):
        for web in small_webs()[::9] + [SQUARE, RING_AND_PIECE, FOURTEEN_ROADS]:
            rotas = all_rotas(web)[::3] if len(web[1]) < 5 else some_rotas(web)
            for rota in rotas[:9] if len(web[1]) < 9 else rotas[:1]:
                table = slow_table(web, rota)
                expected = []
                for name in rota:
                    rest = (web[0], tuple(road for road in web[1] if road[0] != name))
                    without = slow_table(rest, tuple(one for one in rota if one != name))
                    pairs = [(old, new) for row, other in zip(table, without) for old, new in zip(row, other)]
                    if any(old is not None and (new is None or new > old) for old, new in pairs):
                        expected.append(name)
                self.assertEqual(needed_roads(web, rota), tuple(sorted(expected)))


if __name__ == "__main__":
    unittest.main()
