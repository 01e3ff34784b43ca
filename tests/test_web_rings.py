import unittest
from itertools import permutations

from roundpost.webs import is_tree, pieces, ring_holds, ring_of
from samples import (
    ALONE, APART, FOURTEEN_PARALLEL, FOURTEEN_ROADS, LINE_OF_TEN, PARALLEL, RING_AND_PIECE, SAME_NAMES, SQUARE, T,
    TRIANGLE, WEBS, Touchy, all_rings, odd_things, small_webs,
)

EIGHT = (
    ("a", "b", "c", "d", "e"),
    (("p", "a", "b"), ("q", "b", "c"), ("r", "c", "a"), ("s", "c", "d"), ("t", "d", "e"), ("u", "e", "c")),
)


class RingOf(unittest.TestCase):
    def test_trees_have_none(self):
        for web in [web for web in WEBS + small_webs() if is_tree(web)]:
            self.assertIs(ring_of(web), None, web)

    def test_pieces_without_roads_have_none(self):
        self.assertIs(ring_of(ALONE), None)
        self.assertIs(ring_of(APART), None)

    def test_a_ring_of_two_roads(self):
        self.assertEqual(sorted(ring_of(PARALLEL)), ["p", "q"])

    def test_a_ring_of_three_roads(self):
        self.assertEqual(sorted(ring_of(TRIANGLE)), ["x", "y", "z"])
        self.assertEqual(sorted(ring_of(RING_AND_PIECE)), ["a", "v", "w"])

    def test_a_ring_of_ten_roads(self):
        places, roads = LINE_OF_TEN
        web = (places, roads + (("back", "j", "a"),))
        self.assertEqual(sorted(ring_of(web)), sorted(road[0] for road in web[1]))
        self.assertIs(ring_holds(web, ring_of(web)), True)

    def test_it_is_found_wherever_one_is(self):
        for web in small_webs() + [EIGHT, SQUARE, FOURTEEN_PARALLEL, T, RING_AND_PIECE]:
            ring = ring_of(web)
            if web[1] and len(web[1]) > len(web[0]) - len(pieces(web)):
                self.assertIs(type(ring), tuple, web)
                self.assertIs(ring_holds(web, ring), True, web)
            else:
                self.assertIs(ring, None, web)

    def test_the_ring_is_one_by_its_words(self):
        for web in small_webs()[::5] + [EIGHT, SQUARE]:
            rings = all_rings(web)
            ring = ring_of(web)
            self.assertEqual(ring is None, not rings, web)
            if ring is not None:
                self.assertIn(ring, rings, web)

    def test_no_ring_and_one_piece_means_a_tree(self):
        for web in small_webs():
            if len(pieces(web)) == 1 and ring_of(web) is None:
                self.assertEqual(len(web[1]), len(web[0]) - 1, web)


class RingHolds(unittest.TestCase):
    def test_two_roads(self):
        self.assertIs(ring_holds(PARALLEL, ("p", "q")), True)
        self.assertIs(ring_holds(PARALLEL, ("q", "p")), True)
        self.assertIs(ring_holds(PARALLEL, ("p", "p")), False)
        self.assertIs(ring_holds(PARALLEL, ("p",)), False)
        self.assertIs(ring_holds(PARALLEL, ()), False)
        self.assertIs(ring_holds(FOURTEEN_PARALLEL, ("r13", "r2")), True)
        self.assertIs(ring_holds(FOURTEEN_PARALLEL, ("r13", "r2", "r3")), False)
        self.assertIs(ring_holds(FOURTEEN_PARALLEL, ("r13", "r2", "r3", "r4")), False)

    def test_it_may_begin_anywhere_and_go_either_way(self):
        for ring in permutations(("x", "y", "z")):
            self.assertIs(ring_holds(TRIANGLE, ring), True, ring)
        for ring in [("h", "f", "g", "e"), ("f", "g", "e", "i"), ("e", "g", "f", "h"), ("h", "i"), ("i", "h")]:
            self.assertIs(ring_holds(SQUARE, ring), True, ring)

    def test_wrong_sequences(self):
        for ring in [("h", "g", "f", "e"), ("h", "f", "g"), ("h", "f", "g", "e", "i"), ("h", "e"), ("e", "h", "i")]:
            self.assertIs(ring_holds(SQUARE, ring), False, ring)

    def test_no_place_twice(self):
        self.assertIs(ring_holds(EIGHT, ("p", "q", "r")), True)
        self.assertIs(ring_holds(EIGHT, ("s", "t", "u")), True)
        self.assertIs(ring_holds(EIGHT, ("p", "q", "s", "t", "u", "r")), False)
        self.assertIs(ring_holds(EIGHT, ("r", "p", "q", "s", "t", "u")), False)
        self.assertIs(ring_holds(EIGHT, ("p", "q", "r", "p", "q", "r")), False)

    def test_there_and_back_along_one_road_is_none(self):
        self.assertIs(ring_holds(T, ("r", "r")), False)
        self.assertIs(ring_holds(T, ("r", "s", "s", "r")), False)

    def test_ways_that_do_not_come_back(self):
        for thing in [("r", "s"), ("r", "s", "t"), ("t", "u"), ("s", "t", "u"), ("r", "t")]:
            self.assertIs(ring_holds(T, thing), False, thing)

    def test_against_all_rings(self):
        for web in small_webs()[::3] + [EIGHT, SQUARE, SAME_NAMES]:
            rings = all_rings(web)
            names = [road[0] for road in web[1]]
            for many in range(len(names) + 1):
                for thing in permutations(names, many):
                    self.assertIs(ring_holds(web, thing), thing in rings, (web, thing))

    def test_any_object(self):
        for at, thing in enumerate(odd_things()):
            for web in [T, PARALLEL, ALONE, FOURTEEN_ROADS]:
                with self.subTest(at=at):
                    self.assertIs(ring_holds(web, thing), False)

    def test_wrong_kinds(self):
        for thing in [
            ["p", "q"], "pq", {"p": 1, "q": 2}, {"p", "q"}, ("p", None), (None, "q"), ("p", True), ("p", ["q"]),
            ("p", ("q",)), (("p",), ("q",)), ("p", {}), ("p", b"q"), ("p", 1), ("p", "a"), ("p", "x"), ("p", Touchy()),
            (("p", "q"),), ("p", "q", None), ("p", "q", "a"), ("p", "q", "p"), ("p",) * 1000,
        ]:
            with self.subTest(kind=str(type(thing))):
                self.assertIs(ring_holds(PARALLEL, thing), False)

    def test_a_place_of_that_name_is_no_road(self):
        self.assertIs(ring_holds(TRIANGLE, ("a", "b", "c")), False)


if __name__ == "__main__":
    unittest.main()
