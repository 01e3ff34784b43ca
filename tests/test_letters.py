import unittest

from roundpost.errors import BadDay, BadRoad, BadRota, BadTree, BadWeb, TooMany
from roundpost.letters import (
    carried, come_home, heaviest, last_letter, letter_days, lightest_peak, road_letters, still_out,
)
from roundpost.returns import all_days
from roundpost.rotas import backwards
from samples import (
    ALONE, APART, FIVE_PAIRS, FOURTEEN_ROADS, LINE, LINE_OF_TEN, LONG_NAMES, PARALLEL, RING_AND_PIECE, SAME_NAMES,
    SQUARE, STAR, T, TRIANGLE, Touchy, all_rotas, names_of, odd_things, small_trees, some_rotas, trees_of_ten,
)
from slow import simple_ways

ROTA = ("r", "s", "t", "u")
SIX = (tuple("mabcdef"), tuple((f"n{9 - k}", "m", "abcdef"[k]) for k in range(6)))
SEVEN = (tuple("mabcdefg"), tuple((f"n{9 - k}", "m", "abcdefg"[k]) for k in range(7)))
LINE_OF_SEVEN = (LINE_OF_TEN[0][:7], LINE_OF_TEN[1][:6])


def post(web, rota):
    """What is carried day by day, {day: {(index, road, place): letters}}, and {(from, to): moment} of coming home.

    Each letter is carried along the roads of its way one by one.
    """
    ends = {name: (near, far) for name, near, far in web[1]}
    letters = [[place, place, way, goal] for place in web[0] for way, goal in simple_ways(web, place) if way]
    home, days = {}, {}
    day = 0
    while len(home) < len(letters):
        day += 1
        days[day] = {}
        for index, name in enumerate(rota):
            waiting = [one for one in letters if one[2] and one[2][0] == name]
            for one in waiting:
                start, here, way, goal = one
                key = (index, name, here)
                days[day][key] = days[day].get(key, 0) + 1
                one[1] = ends[name][1] if ends[name][0] == here else ends[name][0]
                one[2] = way[1:]
                if not one[2]:
                    assert one[1] == goal
                    home[start, goal] = (day, index + 1)
    return days, home


def some_trees():
    return small_trees()[::2] + trees_of_ten() + [T, STAR, LINE, SAME_NAMES, LONG_NAMES, ALONE]


class Post(unittest.TestCase):
    def test_by_hand(self):
        self.assertEqual(carried(T, ROTA, 1), [
            (0, "r", "a", 4), (0, "r", "b", 1), (1, "s", "b", 6), (1, "s", "c", 2), (2, "t", "c", 3), (2, "t", "d", 4),
            (3, "u", "c", 4), (3, "u", "e", 4),
        ])
        self.assertEqual(carried(T, ROTA, 2), [(0, "r", "b", 1), (1, "s", "c", 4), (2, "t", "c", 1)])
        self.assertEqual(carried(T, ROTA, 3), [(0, "r", "b", 2)])
        self.assertEqual(carried(T, ROTA, 4), [])
        self.assertEqual([still_out(T, ROTA, day) for day in [1, 2, 3, 4, 1000]], [6, 2, 0, 0, 0])
        self.assertEqual(come_home(T, ROTA, 1), [1, 2, 4, 3, 4])
        self.assertEqual(come_home(T, ROTA, 2), [2, 4, 4, 4, 4])
        self.assertEqual(heaviest(T, ROTA), (6, 1, 1, "b"))
        self.assertEqual(last_letter(T, ROTA), (3, 1))
        self.assertEqual(letter_days(T, ROTA), [(1, 14), (2, 4), (3, 2)])
        self.assertEqual(road_letters(T, "s"), (6, 6))

    def test_one_place_alone(self):
        for day in [1, 2, 1000]:
            self.assertEqual(carried(ALONE, (), day), [])
            self.assertEqual(still_out(ALONE, (), day), 0)
            self.assertEqual(come_home(ALONE, (), day), [0])
        self.assertIsNone(heaviest(ALONE, ()))
        self.assertEqual(last_letter(ALONE, ()), (1, 0))
        self.assertEqual(letter_days(ALONE, ()), [])
        self.assertEqual(lightest_peak(ALONE), 0)
        self.assertRaises(BadRoad, road_letters, ALONE, "a")

    def test_letters_road_by_road(self):
        for web in some_trees():
            numbers = {place: k for k, place in enumerate(web[0])}
            for rota in some_rotas(web):
                days, home = post(web, rota)
                last = max(days, default=0)
                for day in range(1, last + 3):
                    expected = [(*key, days[day][key]) for key in days.get(day, {})]
                    expected.sort(key=lambda one: (one[0], numbers[one[2]]))
                    self.assertEqual(carried(web, rota, day), expected)
                    self.assertEqual(still_out(web, rota, day), sum(moment[0] > day for moment in home.values()))
                    self.assertEqual(come_home(web, rota, day), [
                        sum(moment[0] <= day for (_, goal), moment in home.items() if goal == place) for place in web[0]
                    ])
                self.assertEqual(last_letter(web, rota), max(home.values(), default=(1, 0)))
                found = [moment[0] for moment in home.values()]
                self.assertEqual(letter_days(web, rota), [(day, found.count(day)) for day in sorted(set(found))])
                self.check_heaviest(web, rota, days, numbers)

    def check_heaviest(self, web, rota, days, numbers):
        every = [
            (-letters, day, index, numbers[place]) for day in days for (index, _, place), letters in days[day].items()
        ]
        expected = None
        if every:
            letters, day, index, number = min(every)
            expected = (-letters, day, index, web[0][number])
        self.assertEqual(heaviest(web, rota), expected)

    def test_over_a_road_in_all(self):
        for web in some_trees():
            numbers = {place: k for k, place in enumerate(web[0])}
            for rota in some_rotas(web)[:2]:
                days, _ = post(web, rota)
                for name, near, far in web[1]:
                    sums = []
                    for here in sorted([near, far], key=lambda place: numbers[place]):
                        sums.append(sum(
                            letters for walks in days.values() for (_, road, place), letters in walks.items()
                            if (road, place) == (name, here)
                        ))
                    self.assertEqual(road_letters(web, name), tuple(sums))
                    self.assertEqual(sums[0], sums[1])

    def test_backwards_and_all_days(self):
        for web in some_trees():
            for rota in some_rotas(web):
                found = letter_days(web, rota)
                self.assertEqual(letter_days(web, backwards(web, rota)), found)
                self.assertEqual(sum(day * letters for day, letters in found), all_days(web, rota))
                self.assertEqual(sum(letters for _, letters in found), len(web[0]) * (len(web[0]) - 1))

    def test_all_of_what_is_carried(self):
        names = names_of(LINE_OF_TEN)
        walks = [one for day in range(1, 12) for one in carried(LINE_OF_TEN, names[::-1], day)]
        self.assertEqual(sum(letters for *_, letters in walks), sum(2 * k * (10 - k) for k in range(1, 10)))
        self.assertEqual(last_letter(LINE_OF_TEN, names[::-1]), (9, 1))
        self.assertEqual(still_out(LINE_OF_TEN, names[::-1], 8), 1)
        self.assertEqual(still_out(LINE_OF_TEN, names[::-1], 9), 0)
        self.assertEqual(heaviest(LINE_OF_TEN, names), (25, 1, 4, "e"))

    def test_days(self):
        for day in [0, -1, 1001, 10 ** 59, True, False, None, "1", (1,), [1], Touchy()]:
            for call in [carried, still_out, come_home]:
                self.assertRaises(BadDay, call, T, ROTA, day)
                self.assertRaises(BadDay, call, ALONE, (), day)
        self.assertEqual(carried(T, ROTA, 1000), [])

    def test_wrong_arguments(self):
        for web in [APART, PARALLEL, TRIANGLE, SQUARE, RING_AND_PIECE, FOURTEEN_ROADS, FIVE_PAIRS]:
            for call, rest in [(carried, (None, None)), (still_out, (None, None)), (come_home, (None, None)),
                               (road_letters, (None,)), (heaviest, (None,)), (last_letter, (None,)),
                               (letter_days, (None,)), (lightest_peak, ())]:
                self.assertRaises(BadTree, call, web, *rest)
                for thing in odd_things() + [list(T)]:
                    self.assertRaises(BadWeb, call, thing, *rest)
        for call, rest in [(carried, (None,)), (still_out, (0,)), (come_home, (0,)), (heaviest, ()), (last_letter, ()),
                           (letter_days, ())]:
            for rota in [None, list(ROTA), ROTA[1:], ROTA + ("r",), "rstu", ("r", "s", "t", Touchy())]:
                self.assertRaises(BadRota, call, T, rota, *rest)
        for road in ["v", "a", "R", None, 0, ("r",), b"r", Touchy()]:
            self.assertRaises(BadRoad, road_letters, T, road)


class Lightest(unittest.TestCase):
    def test_all_rotas(self):
        for web in small_trees()[::2] + [T, STAR, LINE, SAME_NAMES, LONG_NAMES]:
            peaks = []
            for rota in all_rotas(web):
                days, _ = post(web, rota)
                peaks.append(max([letters for walks in days.values() for letters in walks.values()], default=0))
            self.assertEqual(lightest_peak(web), min(peaks))
            found = [heaviest(web, rota) for rota in all_rotas(web)]
            self.assertEqual(min([one[0] for one in found if one is not None], default=0), lightest_peak(web))

    def test_six_roads_and_seven(self):
        self.assertEqual(lightest_peak(SIX), 6)
        for web in [SIX, LINE_OF_SEVEN]:
            least = min(heaviest(web, rota)[0] for rota in all_rotas(web))
            self.assertEqual(lightest_peak(web), least)
        self.assertRaises(TooMany, lightest_peak, SEVEN)
        self.assertRaises(TooMany, lightest_peak, LINE_OF_TEN)
        self.assertRaises(BadTree, lightest_peak, FOURTEEN_ROADS)


if __name__ == "__main__":
    unittest.main()
