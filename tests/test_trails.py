import unittest

from roundpost.errors import BadMoment, BadPlace, BadTrail
from roundpost.news import trail, trail_end, trail_holds
from samples import (
    ALONE, APART, FOURTEEN_PARALLEL, FOURTEEN_ROADS, LINE_OF_TEN, PARALLEL, SQUARE, T, TRIANGLE, WEBS, Touchy, names_of,
    odd_things, some_weeks,
)
from slow import fewest_roads, goal_of_trail, slow_arrivals, slow_moments, slow_walks

WEEK = (("r", "s", "t", "u"),)


class Trails(unittest.TestCase):
    def test_example(self):
        self.assertEqual(trail(T, WEEK, "e", (1, 0), "a"), (("u", 1), ("s", 2), ("r", 3)))
        self.assertEqual(trail(T, WEEK, "a", (1, 0), "e"), (("r", 1), ("s", 1), ("u", 1)))
        self.assertEqual(trail(T, WEEK, "a", (1, 1), "b"), (("r", 2),))

    def test_same_place_and_never(self):
        self.assertEqual(trail(T, WEEK, "a", (5, 2), "a"), ())
        self.assertEqual(trail(ALONE, ((),), "a", (1, 0), "a"), ())
        self.assertIsNone(trail(APART, ((),), "a", (1, 0), "b"))
        self.assertIsNone(trail(T, (("r",), ("t",)), "a", (1, 0), "d"))

    def test_behind_the_last_day_of_moments(self):
        self.assertEqual(trail(T, WEEK, "e", (1000000, 4), "b"), (("u", 1000001), ("s", 1000002)))

    def test_fewest_roads_of_the_earliest(self):
        # From a to c at the same walk: by the long way on day 1, or by waiting for the last road alone.
        web = (("a", "b", "c"), (("x", "a", "b"), ("y", "a", "b"), ("z", "b", "c")))
        self.assertEqual(len(trail(web, (("x", "y", "z"),), "a", (1, 0), "c")), 2)
        ring = (("a", "b", "c"), (("x", "a", "b"), ("y", "b", "c"), ("z", "c", "a")))
        self.assertEqual(trail(ring, (("x", "y", "z"),), "a", (1, 0), "c"), (("x", 1), ("y", 1)))
        line = (("a", "b", "c", "d"), (("x", "a", "b"), ("y", "b", "c"), ("w", "a", "c"), ("z", "c", "d")))
        self.assertEqual(trail(line, (("x", "y", "w", "z"),), "a", (1, 0), "d"), (("w", 1), ("z", 1)))

    def test_what_each_trail_must_be(self):
        for web in [ALONE, APART, PARALLEL, TRIANGLE, T, SQUARE, FOURTEEN_ROADS]:
            for week in some_weeks(web)[1:]:
                for moment in slow_moments(week, 1, 2)[::4]:
                    for place in web[0][::2]:
                        since = slow_arrivals(web, week, place, moment)
                        for other, come in zip(web[0], since):
                            found = trail(web, week, place, moment, other)
                            self.check(web, week, place, moment, other, come, found)

    def check(self, web, week, place, moment, other, come, found):
        if come is None:
            self.assertIsNone(found)
            return
        self.assertIs(type(found), tuple)
        self.assertEqual(goal_of_trail(web, week, place, moment, found), (other, come))
        self.assertIs(trail_holds(web, week, place, moment, found), True)
        self.assertEqual(trail_end(web, week, place, moment, found), (other, come))
        if len(web[1]) < 10 or len(found) < 4:
            self.assertEqual(len(found), fewest_roads(web, week, place, moment, other, come))

    def test_lines_of_ten_places(self):
        names = names_of(LINE_OF_TEN)
        found = trail(LINE_OF_TEN, ((), names[::-1]), "a", (1, 0), "j")
        self.assertEqual(found, tuple((name, 2 * k + 2) for k, name in enumerate(names)))


class TrailsThatHold(unittest.TestCase):
    def test_the_empty_one(self):
        for moment in [(1, 0), (1, 4), (1000000, 4)]:
            self.assertIs(trail_holds(T, WEEK, "c", moment, ()), True)
            self.assertEqual(trail_end(T, WEEK, "c", moment, ()), ("c", moment))
        self.assertEqual(trail_end(ALONE, ((),), "a", (1, 0), ()), ("a", (1, 0)))

    def test_late_ones_and_ones_that_go_back(self):
        for steps, goal in [
            ((("r", 9),), ("b", (9, 1))),
            ((("r", 1), ("r", 2)), ("a", (2, 1))),
            ((("r", 1), ("s", 1), ("s", 3), ("s", 4), ("t", 4), ("t", 5)), ("c", (5, 3))),
            ((("r", 10 ** 6 + 1), ("s", 10 ** 6 + 1)), ("c", (10 ** 6 + 1, 2))),
            ((("r", 10 ** 59 - 1),), ("b", (10 ** 59 - 1, 1))),
        ]:
            self.assertIs(trail_holds(T, WEEK, "a", (1, 0), steps), True)
            self.assertEqual(trail_end(T, WEEK, "a", (1, 0), steps), goal)

    def test_not_behind_the_moment_or_the_walk_ahead(self):
        for moment, steps in [
            ((1, 1), (("r", 1),)), ((2, 0), (("r", 1),)), ((1, 4), (("r", 1),)), ((1, 0), (("r", 1), ("r", 1))),
            ((1, 0), (("r", 2), ("s", 1))), ((1, 0), (("r", 0),)), ((1, 0), (("r", -1),)), ((1, 0), (("r", -4),)),
            ((1, 0), (("r", 1), ("s", 1), ("r", 2))), ((1, 0), (("s", 1),)), ((1, 0), (("r", 1), ("t", 1))),
        ]:
            self.assertIs(trail_holds(T, WEEK, "a", moment, steps), False)
            self.assertRaises(BadTrail, trail_end, T, WEEK, "a", moment, steps)
        self.assertIs(trail_holds(T, WEEK, "a", (1, 0), (("r", 1), ("s", 1), ("s", 2))), True)
        self.assertIs(trail_holds(T, WEEK, "e", (1, 0), (("u", 1), ("s", 1))), False)

    def test_only_on_days_on_which_it_is_walked(self):
        week = (("r",), (), ("s", "r"))
        for day in range(1, 13):
            walked_then = (day - 1) % 3 in (0, 2)
            self.assertIs(trail_holds(T, week, "a", (1, 0), (("r", day),)), walked_then)
        self.assertIs(trail_holds(T, week, "a", (1, 1), (("r", 1),)), False)
        self.assertIs(trail_holds(T, week, "a", (3, 1), (("r", 3), ("s", 3))), False)
        self.assertIs(trail_holds(T, week, "a", (3, 1), (("r", 3), ("s", 6))), True)
        self.assertIs(trail_holds(T, week, "d", (1, 0), (("t", 1),)), False)

    def test_all_short_ones(self):
        for web in [PARALLEL, TRIANGLE]:
            for week in some_weeks(web):
                steps = [(name, day) for name in names_of(web) for day in range(5)]
                found = [(one,) for one in steps] + [(one, other) for one in steps for other in steps]
                for moment in slow_moments(week, 1, 2)[::2]:
                    for thing in found:
                        goal = goal_of_trail(web, week, web[0][0], moment, thing)
                        self.assertIs(trail_holds(web, week, web[0][0], moment, thing), goal is not None)

    def test_other_objects(self):
        for thing in odd_things() + [
            [("r", 1)], (["r", 1],), ("r", 1), (("r",),), (("r", 1, 1),), (("r", True),), (("r", "1"),), (("r", None),),
            ((None, 1),), ((1, "r"),), (("x", 1),), (("a", 1),), ((("r",), 1),), (("r", (1,)),), ((Touchy(), 1),),
            (("r", Touchy()),), (("r", 1), None), (("r", 1), ("s",)), {("r", 1): True}, "r1", (("R", 1),), ((b"r", 1),),
            (("r", 1), [("s", 1)]), (("r", False),), (((("r", 1),),),),
        ]:
            self.assertIs(trail_holds(T, WEEK, "a", (1, 0), thing), False)
            self.assertRaises(BadTrail, trail_end, T, WEEK, "a", (1, 0), thing)

    def test_wrong_starts(self):
        for call in [trail_holds, trail_end]:
            self.assertRaises(BadPlace, call, T, WEEK, "f", (0, 0), None)
            self.assertRaises(BadMoment, call, T, WEEK, "a", (0, 0), None)
        self.assertRaises(BadMoment, trail, T, WEEK, "a", (1, 5), "f")
        self.assertRaises(BadPlace, trail, T, WEEK, "a", (1, 4), "f")

    def test_parallel_roads(self):
        names = names_of(FOURTEEN_PARALLEL)
        for k, name in enumerate(names):
            self.assertEqual(trail_end(FOURTEEN_PARALLEL, (names,), "a", (1, 0), ((name, 1),)), ("b", (1, k + 1)))
        steps = tuple((name, 7) for name in names)
        self.assertEqual(trail_end(FOURTEEN_PARALLEL, (names,), "b", (1, 14), steps), ("b", (7, 14)))

    def test_all_webs_by_their_own_walks(self):
        for web in WEBS:
            for week in some_weeks(web)[:4]:
                here, since, steps = web[0][0], (1, 0), ()
                for day, k, name in slow_walks(week, 1, 6):
                    ends = [road[1:] for road in web[1] if road[0] == name][0]
                    if here in ends:
                        here = ends[1] if here == ends[0] else ends[0]
                        since, steps = (day, k + 1), steps + ((name, day),)
                self.assertEqual(trail_end(web, week, web[0][0], (1, 0), steps), (here, since))


if __name__ == "__main__":
    unittest.main()
