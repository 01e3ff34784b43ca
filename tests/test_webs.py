import unittest

from roundpost.errors import BadPieces, BadPlace, BadWeb
from roundpost.webs import distance, is_tree, is_web, longest_way, pieces, ring_holds, ring_of, way_of
from samples import (
    ALONE, APART, FOURTEEN_PARALLEL, FOURTEEN_ROADS, LINE_OF_TEN, LONG_NAMES, PARALLEL, RING_AND_PIECE, SAME_NAMES,
    SQUARE, T, TEN, TRIANGLE, WEBS, Touchy, all_ways, odd_things, small_webs,
)

GOOD_NAMES = ["a", "z", "a0", "z9", "abcdefgh", "a1234567", "r", "none", "true"]
BAD_NAMES = [
    "", "A", "aB", "0", "0a", "9z", "abcdefghi", "a12345678", "a_b", "a-b", "_a", "a b", " a", "a ", "a\n", "\na",
    "a\t", "a.", "{", "`", "a/", "a:", None, True, False, 0, 1, ("a",), ["a"], b"a", {"a"}, {}, object(),
]


def wrong_webs():
    places, roads = T
    return odd_things() + [
        list(T), [places, roads], (list(places), roads), (places, list(roads)), T + ((),), (places,), (roads, places),
        (places, tuple(list(road) for road in roads)), ("abcde", roads), (dict.fromkeys(places), roads),
        (places, {road: True for road in roads}), (places, ("rab",)), (places, (roads[0], ["s", "b", "c"])),
        ((), ()), (places + ("a",), roads), (("a", "a"), ()), (("a", "b", "a"), ()), (places, None), (None, roads),
        (places, True), (True, roads), (places, (None,)), (places, ((),)), (places, roads[0]), (places, ("r",)),
        (places, (("r", "a"),)), (places, (("r", "a", "b", "c"),)), (places, (("r",),)),
        (places, (("r", "a", "a"),)), (places, (("r", "a", "f"),)), (places, (("r", "f", "a"),)),
        (places, (("r", "a", "A"),)), (places, (("r", "a", None),)), (places, (("r", None, "a"),)),
        (places, (("r", "a", True),)), (places, (("r", "a", ("b",)),)), (places, (("r", ["a"], "b"),)),
        (places, (("r", "a", {}),)), (places, (("r", set(), "b"),)),
        (places, (("r", "a", "b"), ("r", "c", "d"))), (places, (("r", "a", "b"), ("s", "b", "c"), ("r", "a", "b"))),
        (places[:4], roads), (("a",), (("r", "a", "a"),)), ((("a",), "b"), ()), ((["a"], "b"), ()),
        (places, ((Touchy(), "a", "b"),)), (places, (("r", Touchy(), "b"),)), (places, (("r", "a", Touchy()),)),
        (places, (("r", Touchy(), Touchy()),)), (("a", Touchy()), ()), (places, Touchy()), (Touchy(), roads),
    ]


class Names(unittest.TestCase):
    def test_names_of_places(self):
        for name in GOOD_NAMES:
            with self.subTest(name):
                self.assertIs(is_web(((name,), ())), True)
                self.assertIs(is_web((("x", name), (("x", name, "x"),))), True)
        for name in BAD_NAMES:
            with self.subTest(name):
                self.assertIs(is_web(((name,), ())), False)
                self.assertIs(is_web((("x", name), ())), False)
                self.assertIs(is_web((("x", name), (("x", name, "x"),))), False)

    def test_names_of_roads(self):
        for name in GOOD_NAMES:
            with self.subTest(name):
                self.assertIs(is_web((("x", "y"), ((name, "x", "y"),))), True)
        for name in BAD_NAMES:
            with self.subTest(name):
                self.assertIs(is_web((("x", "y"), ((name, "x", "y"),))), False)
                self.assertIs(is_web((("x", "y"), (("w", "x", "y"), (name, "x", "y")))), False)

    def test_every_sign(self):
        letters = "abcdefghijklmnopqrstuvwxyz"
        for number in list(range(32, 127)) + [9, 10]:
            sign = chr(number)
            with self.subTest(sign):
                self.assertIs(is_web(((sign,), ())), sign in letters)
                self.assertIs(is_web((("a" + sign,), ())), sign in letters + "0123456789")
                self.assertIs(is_web((("abcdefg" + sign,), ())), sign in letters + "0123456789")


class IsWeb(unittest.TestCase):
    def test_webs(self):
        for web in WEBS + small_webs()[::7]:
            with self.subTest(web):
                self.assertIs(is_web(web), True)

    def test_wrong_webs(self):
        for at, thing in enumerate(wrong_webs()):
            with self.subTest(at=at):
                self.assertIs(is_web(thing), False)

    def test_number_of_places(self):
        self.assertIs(is_web((TEN, ())), True)
        self.assertIs(is_web((TEN + ("k",), ())), False)
        self.assertIs(is_web((TEN[:9] + ("a",), ())), False)
        self.assertIs(is_web(((), ())), False)

    def test_number_of_roads(self):
        places, roads = FOURTEEN_PARALLEL
        self.assertIs(is_web((places, roads)), True)
        self.assertIs(is_web((places, roads + (("r14", "a", "b"),))), False)
        self.assertIs(is_web((places, roads[:13] + (("r0", "a", "b"),))), False)

    def test_a_road_may_have_a_places_name(self):
        self.assertIs(is_web(SAME_NAMES), True)
        self.assertIs(is_web((("a", "b"), (("a", "a", "b"), ("b", "b", "a")))), True)

    def test_sequence_of_the_two_places(self):
        turned = (T[0], tuple((name, far, near) for name, near, far in T[1]))
        self.assertIs(is_web(turned), True)
        for place in T[0]:
            for other in T[0]:
                self.assertEqual(way_of(turned, place, other), way_of(T, place, other))

    def test_every_function_raises_bad_web(self):
        for at, thing in enumerate(wrong_webs()):
            calls = [
                lambda: distance(thing, "a", "b"), lambda: way_of(thing, "a", "b"), lambda: pieces(thing),
                lambda: is_tree(thing), lambda: longest_way(thing), lambda: ring_of(thing),
                lambda: ring_holds(thing, ("r", "s")), lambda: ring_holds(thing, None),
            ]
            for number, call in enumerate(calls):
                with self.subTest(at=at, call=number), self.assertRaises(BadWeb):
                    call()


class Ways(unittest.TestCase):
    def test_the_example(self):
        self.assertEqual(way_of(T, "a", "e"), ("r", "s", "u"))
        self.assertEqual(distance(T, "a", "e"), 3)
        self.assertEqual(way_of(T, "e", "a"), ("u", "s", "r"))
        self.assertEqual(way_of(T, "d", "e"), ("t", "u"))

    def test_the_same_place(self):
        for web in WEBS:
            for place in web[0]:
                self.assertEqual(distance(web, place, place), 0)
                self.assertEqual(way_of(web, place, place), ())

    def test_no_way(self):
        self.assertIs(distance(APART, "a", "b"), None)
        self.assertIs(way_of(APART, "a", "b"), None)
        self.assertIs(distance(RING_AND_PIECE, "z", "k"), None)
        self.assertIs(way_of(RING_AND_PIECE, "k", "z"), None)

    def test_the_first_way_by_the_numbers_of_the_roads(self):
        self.assertEqual(way_of(PARALLEL, "a", "b"), ("p",))
        self.assertEqual(way_of(PARALLEL, "b", "a"), ("p",))
        turned = (PARALLEL[0], PARALLEL[1][::-1])
        self.assertEqual(way_of(turned, "a", "b"), ("q",))
        self.assertEqual(way_of(SQUARE, "a", "d"), ("h", "f"))
        self.assertEqual(way_of(SQUARE, "d", "a"), ("g", "e"))
        self.assertEqual(way_of(SQUARE, "b", "c"), ("h", "e"))

    def test_against_all_ways(self):
        for web in small_webs() + [SQUARE, RING_AND_PIECE, T]:
            numbers = {road[0]: number for number, road in enumerate(web[1])}
            for place in web[0]:
                best = {}
                for way, end in all_ways(web, place, len(web[0]) - 1):
                    rank = (len(way), tuple(numbers[name] for name in way))
                    best[end] = min(best.get(end, (rank, way)), (rank, way))
                for other in web[0]:
                    rank, way = best.get(other, ((None,), None))
                    self.assertEqual(way_of(web, place, other), way, (web, place, other))
                    self.assertEqual(distance(web, place, other), rank[0], (web, place, other))

    def test_ten_places(self):
        self.assertEqual(distance(LINE_OF_TEN, "a", "j"), 9)
        self.assertEqual(way_of(LINE_OF_TEN, "j", "a"), tuple(f"r{k}" for k in range(8, -1, -1)))

    def test_bad_places(self):
        for at, thing in enumerate(odd_things() + ["r", "s", "f", "A", "aa", ["a"], ("a",), b"a"]):
            for call in [distance, way_of]:
                with self.subTest(at=at, call=call.__name__):
                    self.assertRaises(BadPlace, call, T, thing, "a")
                    self.assertRaises(BadPlace, call, T, "a", thing)
                    self.assertRaises(BadPlace, call, T, thing, thing)

    def test_a_place_of_that_name_is_wanted(self):
        self.assertEqual(way_of(SAME_NAMES, "a", "c"), ("c", "b"))
        self.assertRaises(BadPlace, distance, LONG_NAMES, "abcdefgh", "z9999999")


class Pieces(unittest.TestCase):
    def test_pieces(self):
        self.assertEqual(pieces(T), [("a", "b", "c", "d", "e")])
        self.assertEqual(pieces(ALONE), [("a",)])
        self.assertEqual(pieces((("b", "a"), ())), [("a",), ("b",)])
        self.assertEqual(pieces(RING_AND_PIECE), [("a", "m", "z"), ("b", "k")])
        self.assertEqual(pieces((("a10", "a9", "a", "b"), (("r", "b", "a"),))), [("a", "b"), ("a10",), ("a9",)])

    def test_against_distances(self):
        for web in small_webs():
            expected = {tuple(sorted(q for q in web[0] if distance(web, p, q) is not None)) for p in web[0]}
            self.assertEqual(pieces(web), sorted(expected), web)

    def test_kinds(self):
        self.assertIs(type(pieces(T)), list)
        self.assertIs(type(pieces(T)[0]), tuple)


class Trees(unittest.TestCase):
    def test_trees(self):
        for web in [T, ALONE, LINE_OF_TEN, SAME_NAMES, LONG_NAMES]:
            self.assertIs(is_tree(web), True, web)

    def test_no_trees(self):
        ring_apart = (("a", "b", "c"), PARALLEL[1])
        for web in [APART, PARALLEL, TRIANGLE, RING_AND_PIECE, SQUARE, FOURTEEN_ROADS, ring_apart]:
            self.assertIs(is_tree(web), False, web)

    def test_a_ring_and_a_place_apart_have_as_many_roads_as_a_tree(self):
        web = (("a", "b", "c", "d"), TRIANGLE[1])
        self.assertEqual(len(web[1]), len(web[0]) - 1)
        self.assertIs(is_tree(web), False)


class LongestWay(unittest.TestCase):
    def test_the_example(self):
        self.assertEqual(longest_way(T), (3, "a", "d"))
        swapped = (("a", "b", "c", "e", "d"), T[1])
        self.assertEqual(longest_way(swapped), (3, "a", "e"))
        self.assertEqual(longest_way((T[0][::-1], T[1])), (3, "e", "a"))

    def test_one_place_alone(self):
        self.assertEqual(longest_way(ALONE), (0, "a", "a"))
        self.assertEqual(longest_way((("z9",), ())), (0, "z9", "z9"))

    def test_two_places(self):
        self.assertEqual(longest_way(PARALLEL), (1, "a", "b"))
        self.assertEqual(longest_way((("b", "a"), PARALLEL[1])), (1, "b", "a"))

    def test_against_all_distances(self):
        for web in [web for web in small_webs() if len(pieces(web)) == 1] + [LINE_OF_TEN, FOURTEEN_ROADS]:
            places = web[0]
            ranked = [
                (-distance(web, place, other), row, column)
                for row, place in enumerate(places) for column, other in enumerate(places)
            ]
            least, row, column = min(ranked)
            self.assertEqual(longest_way(web), (-least, places[row], places[column]), web)

    def test_several_pieces(self):
        for web in [APART, RING_AND_PIECE, (("a", "b", "c"), PARALLEL[1])]:
            with self.subTest(web), self.assertRaises(BadPieces):
                longest_way(web)


if __name__ == "__main__":
    unittest.main()
