import unittest
from itertools import combinations, permutations

from roundpost.errors import BadJoin, BadPlace, BadRoad, BadRota, BadTurns, BadWeb, TooMany
from roundpost.joints import across_days, block_ends, blocks, cut_places, joined_web, woven_rota
from roundpost.news import days
from roundpost.webs import is_tree, is_web
from samples import (
    ALONE, APART, FIVE_PAIRS, FOURTEEN_PARALLEL, FOURTEEN_ROADS, LINE, LINE_OF_TEN, PARALLEL, RING_AND_PIECE,
    SAME_NAMES, SQUARE, STAR, T, TEN, TRIANGLE, WEBS, Touchy, all_rings, all_rotas, names_of, odd_things, small_trees,
    small_webs, some_rotas,
)
from slow import simple_ways, slow_day

# Two triangles that share a place, two rings that share a road, and a ring of which each road is doubled.
BOW = (("c", "a", "b", "e", "d"), (
    ("u", "a", "b"), ("v", "b", "c"), ("w", "c", "a"), ("x", "c", "d"), ("y", "d", "e"), ("z", "e", "c"),
))
HOUSE = (("a", "b", "c", "d"), (("p", "a", "b"), ("q", "b", "c"), ("r", "c", "d"), ("s", "d", "a"), ("t", "a", "c")))
DOUBLED = (("a", "b", "c"), tuple((f"{sign}{k}", *pair) for sign in "xy" for k, pair in enumerate(
    [("a", "b"), ("b", "c"), ("c", "a")])))
# What is joined with T at c.
MORE = (("f", "c", "g"), (("v", "c", "f"), ("w", "f", "g"), ("x", "c", "g")))


def joined_by_ways(web, place, other):
    return other in [end for _, end in simple_ways(web, place)]


def slow_cut_places(web):
    found = []
    for cut in web[0]:
        rest = (tuple(one for one in web[0] if one != cut), tuple(road for road in web[1] if cut not in road[1:]))
        if any(joined_by_ways(web, *pair) and not joined_by_ways(rest, *pair) for pair in combinations(rest[0], 2)):
            found.append(cut)
    return tuple(sorted(found))


def slow_blocks(web):
    """The roads that belong together, each at first by itself, put together ring by ring until nothing changes."""
    found = [{name} for name in names_of(web)]
    for ring in all_rings(web):
        held = [block for block in found if block & set(ring)]
        found = [block for block in found if block not in held] + [set().union(*held)]
    return sorted(tuple(sorted(block)) for block in found)


def weaves(many, more):
    """All tuples of so many 0 and so many 1."""
    every = range(many + more)
    return [tuple(0 if k in chosen else 1 for k in every) for chosen in combinations(every, many)]


def renamed(web):
    """A web like this one of which only the first place has a name that it has there."""
    names = {place: place if k == 0 else "z" + place for k, place in enumerate(web[0])}
    return tuple(names.values()), tuple(("z" + name, names[near], names[far]) for name, near, far in web[1])


class Cuts(unittest.TestCase):
    def test_by_hand(self):
        self.assertEqual(cut_places(T), ("b", "c"))
        self.assertEqual(cut_places(ALONE), ())
        self.assertEqual(cut_places(APART), ())
        self.assertEqual(cut_places(PARALLEL), ())
        self.assertEqual(cut_places(TRIANGLE), ())
        self.assertEqual(cut_places(BOW), ("c",))
        self.assertEqual(cut_places(HOUSE), ())
        self.assertEqual(cut_places(STAR), ("m",))
        self.assertEqual(cut_places(LINE_OF_TEN), tuple("bcdefghi"))
        self.assertEqual(cut_places(SAME_NAMES), ("b",))
        self.assertEqual(cut_places(RING_AND_PIECE), ())

    def test_all_two_other_places(self):
        for web in small_webs()[::3] + WEBS + [BOW, HOUSE, DOUBLED, MORE]:
            if web is not FOURTEEN_PARALLEL:
                self.assertEqual(cut_places(web), slow_cut_places(web))
        self.assertEqual(cut_places(FOURTEEN_PARALLEL), ())

    def test_other_objects(self):
        for web in odd_things() + [list(T), ((), ())]:
            self.assertRaises(BadWeb, cut_places, web)
            self.assertRaises(BadWeb, blocks, web)
            self.assertRaises(BadWeb, block_ends, web, None)


class Blocks(unittest.TestCase):
    def test_by_hand(self):
        self.assertEqual(blocks(T), [("r",), ("s",), ("t",), ("u",)])
        self.assertEqual(blocks(ALONE), [])
        self.assertEqual(blocks(PARALLEL), [("p", "q")])
        self.assertEqual(blocks(BOW), [("u", "v", "w"), ("x", "y", "z")])
        self.assertEqual(blocks(HOUSE), [("p", "q", "r", "s", "t")])
        self.assertEqual(blocks(RING_AND_PIECE), [("a", "v", "w"), ("k",)])
        self.assertEqual(blocks(FOURTEEN_PARALLEL), [tuple(sorted(names_of(FOURTEEN_PARALLEL)))])
        self.assertEqual(block_ends(BOW, "y"), ("c", "d", "e"))
        self.assertEqual(block_ends(BOW, "w"), ("a", "b", "c"))
        self.assertEqual(block_ends(T, "r"), ("a", "b"))
        self.assertEqual(block_ends(RING_AND_PIECE, "a"), ("a", "m", "z"))
        self.assertEqual(block_ends(RING_AND_PIECE, "k"), ("b", "k"))

    def test_all_rings(self):
        webs = small_webs()[::3] + [one for one in WEBS if one is not FOURTEEN_PARALLEL]
        for web in webs + [BOW, HOUSE, DOUBLED, MORE]:
            expected = slow_blocks(web)
            self.assertEqual(blocks(web), expected)
            for block in expected:
                ends = {place for name, *two in web[1] if name in block for place in two}
                for name in block:
                    self.assertEqual(block_ends(web, name), tuple(sorted(ends)))

    def test_any_sequence_of_roads(self):
        for web in [BOW, HOUSE, DOUBLED]:
            expected = slow_blocks(web)
            for roads in list(permutations(web[1]))[::17]:
                self.assertEqual(blocks((web[0], roads)), expected)

    def test_trees(self):
        for web in small_trees() + [LINE, STAR]:
            self.assertEqual(blocks(web), sorted((name,) for name in names_of(web)))

    def test_wrong_roads(self):
        for road in ["v", "a", "R", "", None, 0, True, ("r",), ["r"], b"r", Touchy()]:
            self.assertRaises(BadRoad, block_ends, T, road)
        self.assertRaises(BadRoad, block_ends, ALONE, "a")


class Joining(unittest.TestCase):
    def test_by_hand(self):
        self.assertEqual(joined_web(T, MORE, "c"), (
            ("a", "b", "c", "d", "e", "f", "g"), T[1] + MORE[1],
        ))
        self.assertEqual(joined_web(MORE, T, "c"), (
            ("f", "c", "g", "a", "b", "d", "e"), MORE[1] + T[1],
        ))
        self.assertEqual(joined_web(ALONE, ALONE, "a"), ALONE)
        self.assertEqual(joined_web(ALONE, T, "a"), T)
        self.assertEqual(joined_web(T, ALONE, "a"), T)
        self.assertEqual(joined_web(APART, ALONE, "a"), APART)
        self.assertEqual(joined_web(APART, (("c", "b"), (("v", "c", "b"),)), "b"), (
            ("a", "b", "c"), (("v", "c", "b"),),
        ))

    def test_joined_webs(self):
        webs = small_webs()[::131] + [T, TRIANGLE, PARALLEL]
        for web in webs:
            for other in webs:
                there = renamed(other)
                place = web[0][-1]
                there = (tuple(place if k == 0 else one for k, one in enumerate(there[0])),
                         tuple(tuple(place if one == there[0][0] else one for one in road) for road in there[1]))
                if set(web[0]) & set(there[0]) != {place}:
                    continue
                found = joined_web(web, there, place)
                self.assertIs(is_web(found), True)
                self.assertEqual(found, (web[0] + there[0][1:], web[1] + there[1]))
                self.assertEqual(is_tree(found), is_tree(web) and is_tree(there))

    def test_places_and_names_in_common(self):
        for other in [APART, (("x", "y"), ()), (("e", "c", "z"), ()), T, PARALLEL]:
            for place in ["a", "b", "c", "e", "x", "", None, Touchy()]:
                self.assertRaises(BadJoin, joined_web, T, other, place)
        for place in ["a", "b", "f", "g", "v", "r", "cc", "", None, True, 0, ("c",), ["c"], b"c", Touchy()]:
            self.assertRaises(BadJoin, joined_web, T, MORE, place)
        # A road's name that is in both makes every place wrong; a road may have a place's name.
        same = (("c", "f"), (("u", "c", "f"),))
        for place in ["c", "f", "u", None]:
            self.assertRaises(BadJoin, joined_web, T, same, place)
        named = (("c", "f"), (("a", "c", "f"),))
        self.assertEqual(joined_web(T, named, "c")[1][-1], ("a", "c", "f"))

    def test_ten_places_and_fourteen_roads(self):
        six = (("c", "f", "g", "h", "i", "j"), ())
        self.assertEqual(joined_web(T, six, "c")[0], TEN)
        self.assertRaises(TooMany, joined_web, T, (six[0] + ("k",), ()), "c")
        self.assertRaises(BadJoin, joined_web, T, (six[0] + ("k",), ()), "k")
        ten = (("c", "f"), tuple((f"v{k}", "f", "c") for k in range(10)))
        self.assertEqual(len(joined_web(T, ten, "c")[1]), 14)
        eleven = (ten[0], ten[1] + (("v", "f", "c"),))
        self.assertRaises(TooMany, joined_web, T, eleven, "c")
        rota, second = names_of(T), names_of(eleven)
        turns = (0,) * 4 + (1,) * 11
        self.assertRaises(TooMany, woven_rota, T, eleven, "c", rota, second, turns)
        self.assertRaises(TooMany, across_days, T, eleven, "c", rota, second, turns, "a", "f")
        self.assertRaises(BadPlace, across_days, T, eleven, "c", rota, second, turns, "f", "f")
        self.assertRaises(BadPlace, across_days, T, eleven, "c", rota, second, turns, "a", "a")
        self.assertRaises(BadTurns, woven_rota, T, eleven, "c", rota, second, turns + (1,))
        self.assertRaises(BadRota, woven_rota, T, eleven, "c", rota, second[1:], None)
        self.assertEqual(len(woven_rota(T, ten, "c", rota, names_of(ten), turns[:14])), 14)
        self.assertRaises(TooMany, joined_web, FOURTEEN_ROADS, (("a", "k"), ()), "a")
        self.assertRaises(TooMany, joined_web, FOURTEEN_PARALLEL, (("a", "k"), (("v", "k", "a"),)), "a")
        self.assertEqual(joined_web(FOURTEEN_ROADS, ALONE, "a"), FOURTEEN_ROADS)


class Weaving(unittest.TestCase):
    def test_by_hand(self):
        rota, second = ("r", "s", "t", "u"), ("x", "w", "v")
        self.assertEqual(woven_rota(T, MORE, "c", rota, second, (0, 1, 1, 0, 0, 1, 0)), (
            "r", "x", "w", "s", "t", "v", "u",
        ))
        self.assertEqual(woven_rota(ALONE, ALONE, "a", (), (), ()), ())
        self.assertEqual(across_days(T, MORE, "c", rota, second, (0, 0, 0, 0, 1, 1, 1), "a", "g"), (1, 0))
        self.assertEqual(across_days(T, MORE, "c", rota, second, (1, 1, 1, 0, 0, 0, 0), "a", "g"), (2, 1))
        self.assertEqual(across_days(T, MORE, "c", rota, second, (1, 1, 1, 0, 0, 0, 0), "c", "g"), (1, 0))
        self.assertEqual(across_days(T, MORE, "c", rota, second, (1, 1, 1, 0, 0, 0, 0), "e", "c"), (1, 0))
        self.assertEqual(across_days(T, MORE, "c", rota, second, (1, 1, 1, 0, 0, 0, 0), "c", "c"), (0, 0))
        self.assertEqual(across_days(ALONE, ALONE, "a", (), (), (), "a", "a"), (0, 0))
        self.assertEqual(across_days(APART, ALONE, "a", (), (), (), "b", "a"), (None, 0))
        more = (("k", "a"), (("v", "a", "k"),))
        self.assertEqual(across_days(APART, more, "a", (), ("v",), (1,), "b", "k"), (None, 0))
        self.assertEqual(across_days(ALONE, APART, "a", (), (), (), "a", "b"), (None, 0))

    def pairs(self):
        small = [APART, PARALLEL, TRIANGLE, SAME_NAMES, RING_AND_PIECE] + [one for one in small_webs()[::119]]
        for web in small:
            for other in small[::2]:
                names = {place: "y" + place for place in other[0]}
                names[other[0][-1]] = web[0][len(web[1]) % len(web[0])]
                there = (tuple(names.values()), tuple(("y" + n, names[a], names[b]) for n, a, b in other[1]))
                if len(web[1]) + len(there[1]) <= 7:
                    yield web, there, names[other[0][-1]]

    def test_all_ways_of_weaving(self):
        lates = set()
        for web, other, place in self.pairs():
            whole = joined_web(web, other, place)
            for rota in all_rotas(web)[::7]:
                for second in some_rotas(other)[:2]:
                    for turns in weaves(len(rota), len(second)):
                        woven = woven_rota(web, other, place, rota, second, turns)
                        self.assertEqual(tuple(name for name in woven if name in rota), rota)
                        self.assertEqual(tuple(name for name in woven if name in second), second)
                        self.assertEqual(tuple(0 if name in rota else 1 for name in woven), turns)
                        self.check(whole, woven, web, other, place, rota, second, turns, lates)
        self.assertEqual(lates, {0, 1})

    def check(self, whole, woven, web, other, place, rota, second, turns, lates):
        for start in web[0]:
            for goal in other[0]:
                day = slow_day(whole, woven, start, goal)
                there, onwards = slow_day(web, rota, start, place), slow_day(other, second, place, goal)
                late = 0
                if day is not None and place not in (start, goal):
                    late = 0 if day == there + onwards - 1 else 1
                    self.assertIn(day - there - onwards + 1, [0, 1])
                lates.add(late)
                found = across_days(web, other, place, rota, second, turns, start, goal)
                self.assertEqual(found, (day, late))

    def test_days_within_one_web(self):
        for web, other, place in list(self.pairs())[::3]:
            whole = joined_web(web, other, place)
            rota, second = names_of(web), names_of(other)[::-1]
            for turns in weaves(len(rota), len(second))[::5]:
                woven = woven_rota(web, other, place, rota, second, turns)
                for one, held in [(web, rota), (other, second)]:
                    for start in one[0]:
                        for goal in one[0]:
                            self.assertEqual(days(whole, (woven,), start, goal), days(one, (held,), start, goal))

    def test_lates_in_trees(self):
        other = renamed((("c", "f", "g"), (("v", "c", "f"), ("w", "f", "g"))))
        rota, second = ("t", "r", "u", "s"), ("zw", "zv")
        for turns in weaves(4, 2):
            for start in "abde":
                for goal in ["zf", "zg"]:
                    there = across_days(T, other, "c", rota, second, turns, start, goal)
                    back = across_days(other, T, "c", second, rota, tuple(1 - one for one in turns), goal, start)
                    self.assertEqual(there[1] + back[1], 1)

    def test_wrong_turns(self):
        rota, second = names_of(T), names_of(MORE)
        right = (0, 1, 0, 1, 0, 1, 0)
        self.assertEqual(len(woven_rota(T, MORE, "c", rota, second, right)), 7)
        for turns in odd_things() + [
            list(right), right[1:], right[:6], right + (0,), right + (1,), right + (2,), right + (-1,), right + (None,),
            (1, 1, 0, 1, 0, 1, 0), (0,) * 7, (1,) * 7,
            (0, 0, 0, 1, 0, 1, 0), (0, True, 0, 1, 0, 1, 0), (False, 1, 0, 1, 0, 1, 0), (2, 1, 0, 1, 0, 1, 0),
            (0, 1, 0, 1, 0, 1, None), (0, 1, 0, 1, 0, 1, -1), (0, 1, 0, 1, 0, 1, "0"), "0101010",
            ((0, 1, 0, 1, 0, 1, 0),),
            (0, 1, 0, 1, 0, 1, (0,)), (0, 1, 0, 1, 0, 1, Touchy()), (0, 1, 0, 1, 0, 1, 10 ** 59), (),
        ]:
            self.assertRaises(BadTurns, woven_rota, T, MORE, "c", rota, second, turns)
            self.assertRaises(BadTurns, across_days, T, MORE, "c", rota, second, turns, None, None)
        self.assertRaises(BadTurns, woven_rota, ALONE, ALONE, "a", (), (), (0,))
        self.assertRaises(BadTurns, woven_rota, ALONE, ALONE, "a", (), (), None)

    def test_sequence_of_errors(self):
        rota, second, turns = names_of(T), names_of(MORE), (0, 1, 0, 1, 0, 1, 0)
        right = [T, MORE, "c", rota, second, turns, "a", "f"]
        wrong = [BadWeb, BadWeb, BadJoin, BadRota, BadRota, BadTurns, BadPlace, BadPlace]
        for call, many in [(joined_web, 3), (woven_rota, 6), (across_days, 8)]:
            for at in range(many):
                self.assertRaises(wrong[at], call, *right[:at], *[None] * (many - at))
        self.assertRaises(BadRota, woven_rota, T, MORE, "c", second, second, turns)
        self.assertRaises(BadRota, woven_rota, T, MORE, "c", rota, rota, turns)
        for start, goal in [("f", "g"), ("a", "b"), ("g", "g"), ("r", "g"), ("a", "v"), (Touchy(), "g"), ("a", ["g"])]:
            self.assertRaises(BadPlace, across_days, T, MORE, "c", rota, second, turns, start, goal)
        self.assertRaises(BadWeb, joined_web, T, FIVE_PAIRS[0], "a")
        self.assertRaises(BadJoin, joined_web, SQUARE, SQUARE, "a")


if __name__ == "__main__":
    unittest.main()
