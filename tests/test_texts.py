import unittest

from roundpost.errors import BadRows, BadWeb, BadWeek
from roundpost.texts import read_web, write_web
from samples import (
    ALONE, APART, FOURTEEN_ROADS, LINE_OF_TEN, LONG_NAMES, PARALLEL, SAME_NAMES, T, T_TEXT, TEN, WEBS, Touchy,
    odd_things, small_webs,
)

WEEK = (("r", "s", "t", "u"),)
PLACES = "place a\nplace b\nplace c"
ROADS = PLACES + "\nroad p a b\nroad q b c"


def weeks_of(web):
    names = tuple(road[0] for road in web[1])
    return [
        ((),), (names,), (names[::-1],), ((), ()), (names, (), names[:2]), (names[:1], names[1:], names[::2], names),
        ((), (), (), ()),
    ]


class Writing(unittest.TestCase):
    def test_the_example(self):
        self.assertEqual(write_web(T, WEEK), T_TEXT)

    def test_one_place_alone(self):
        self.assertEqual(write_web(ALONE, ((),)), "place a\nround")
        self.assertEqual(write_web(ALONE, ((), (), (), ())), "place a\nround\nround\nround\nround")

    def test_empty_rounds_and_half_ones(self):
        self.assertEqual(
            write_web(PARALLEL, (("q",), (), ("q", "p"))),
            "place a\nplace b\nroad p a b\nroad q b a\nround q\nround\nround q p",
        )

    def test_the_sequence_of_a_roads_places_stays(self):
        turned = (("b", "a"), (("q", "b", "a"), ("p", "a", "b")))
        self.assertEqual(write_web(turned, ((),)), "place b\nplace a\nroad q b a\nroad p a b\nround")

    def test_bad_webs_come_first(self):
        for at, thing in enumerate(odd_things() + [list(T), (list(T[0]), T[1]), (T[0], list(T[1]))]):
            with self.subTest(at=at):
                self.assertRaises(BadWeb, write_web, thing, WEEK)
                self.assertRaises(BadWeb, write_web, thing, None)


class Weeks(unittest.TestCase):
    def test_one_to_four_rounds(self):
        for many in range(1, 5):
            self.assertEqual(read_web(write_web(T, WEEK * many)), (T, WEEK * many))
        for many in [0, 5, 6]:
            with self.subTest(many):
                self.assertRaises(BadWeek, write_web, T, WEEK * many)
                self.assertRaises(BadWeek, write_web, T, ((),) * many)

    def test_any_object(self):
        for at, thing in enumerate(odd_things()):
            with self.subTest(at=at):
                self.assertRaises(BadWeek, write_web, T, thing)
                self.assertRaises(BadWeek, write_web, T, (("r",), thing, ("s",)))

    def test_wrong_kinds_at_every_depth(self):
        for thing in [
            ["r", "s"], [["r", "s"]], (["r", "s"],), [("r", "s")], ("r", "s"), "rs", ("rs",), (("r", "s"), "tu"),
            ((("r",), "s"),), (("r", None),), (("r", True),), (("r", 0),), (("r", ["s"]),), (("r", {}),),
            (("r", b"s"),), (("r",), None), (None,), (True,), ({"r": 1},), ({"r"},), (("r", Touchy()),),
        ]:
            with self.subTest(thing=str(type(thing))):
                self.assertRaises(BadWeek, write_web, T, thing)

    def test_roads_of_a_round(self):
        for thing in [
            (("r", "r"),), (("r", "s", "t", "u", "r"),), (("r", "s"), ("t", "s", "t")), (("x",),), (("r", "a"),),
            (("R",),), (("",),), (("r s",),), ((), (), (), ("r", "r")), (("r", "s"), (), ("x",)),
        ]:
            with self.subTest(thing):
                self.assertRaises(BadWeek, write_web, T, thing)
        self.assertRaises(BadWeek, write_web, ALONE, (("r",),))

    def test_a_road_may_stand_in_several_rounds(self):
        week = (("r", "s"), ("s", "r"), (), ("r",))
        self.assertEqual(read_web(write_web(T, week)), (T, week))


class Reading(unittest.TestCase):
    def test_the_example(self):
        self.assertEqual(read_web(T_TEXT), (T, WEEK))

    def test_what_was_written_comes_back(self):
        for web in WEBS + small_webs()[::11]:
            for week in weeks_of(web):
                result = read_web(write_web(web, week))
                self.assertEqual(result, (web, week))

    def test_kinds(self):
        result = read_web("place a\nplace b\nroad r b a\nround r\nround")
        self.assertEqual(result, ((("a", "b"), (("r", "b", "a"),)), (("r",), ())))
        self.assertIs(type(result), tuple)
        for part in [result[0], result[1], *result[0], result[0][1][0], *result[1]]:
            self.assertIs(type(part), tuple)

    def check(self, text, row, word):
        with self.subTest(text):
            with self.assertRaises(BadRows) as caught:
                read_web(text)
            self.assertEqual((caught.exception.row, caught.exception.word), (row, word))

    def test_no_text(self):
        for at, thing in enumerate(odd_things()):
            if not isinstance(thing, str):
                with self.subTest(at=at), self.assertRaises(BadRows) as caught:
                    read_web(thing)
                self.assertEqual((caught.exception.row, caught.exception.word), (0, 0))
        for thing in [(T, WEEK), [T_TEXT], (T_TEXT,), T_TEXT.encode()]:
            with self.assertRaises(BadRows) as caught:
                read_web(thing)
            self.assertEqual((caught.exception.row, caught.exception.word), (0, 0))

    def test_the_first_word_of_the_first_row(self):
        for head in ["", "road", "round", "x", "Place", "plac", "places", "place\t", "road r a b", "round r", "\n"]:
            self.check(head, 0, 0)
            self.check(head + "\n" + T_TEXT, 0, 0)
        self.check(" " + T_TEXT, 0, 0)
        self.check("\n" + T_TEXT, 0, 0)

    def test_rows_of_places(self):
        self.check("place", 0, 1)
        self.check("place ", 0, 1)
        self.check("place  a", 0, 1)
        self.check("place a ", 0, 2)
        self.check("place a b", 0, 2)
        self.check("place A b", 0, 1)
        self.check("place\ta", 0, 0)
        for word in ["1", "A", "aB", "abcdefghi", "a-", "a\t", "?", "0a"]:
            self.check(f"place {word}", 0, 1)
            self.check(f"place x\nplace {word}\nround", 1, 1)
        self.check("place a\nplace a", 1, 1)
        self.check("place a\nplace b\nplace a\nround", 2, 1)
        self.check("place a\nplace", 1, 1)
        self.check("place a\nplace\nround", 1, 1)
        self.check("place a\nplace b c\nround", 1, 2)
        self.check("place a\n\nround", 1, 0)
        self.check("place a\nx", 1, 0)

    def test_a_row_of_places_too_many(self):
        ten = "\n".join(f"place {place}" for place in TEN)
        self.assertEqual(read_web(ten + "\nround"), ((TEN, ()), ((),)))
        for row in ["place k", "place", "place a", "place ", "place K l"]:
            self.check(ten + "\n" + row, 10, 0)
            self.check(ten + "\n" + row + "\nround", 10, 0)
        nine = "\n".join(f"place {place}" for place in TEN[:9])
        self.check(nine + "\nplace a", 9, 1)

    def test_rows_of_roads(self):
        for row, word in [
            ("road", 1), ("road ", 1), ("road p", 2), ("road p ", 2), ("road p a", 3), ("road p a ", 3),
            ("road p a b ", 4), ("road p a b c", 4), ("road p a b a", 4), ("road P", 1), ("road 1 x x x", 1),
            ("road abcdefghi a b", 1), ("road  p a b", 1), ("road p  a b", 2), ("road p a  b", 3),
            ("road p x b", 2), ("road p p b", 2), ("road p A b", 2), ("road p x x", 2), ("road p a x", 3),
            ("road p a a", 3), ("road p b b", 3), ("road p a a b", 3), ("road p a A", 3), ("Road p a b", 0),
            ("roads p a b", 0), ("", 0), (" road p a b", 0), ("road p a b\t", 3),
        ]:
            self.check(PLACES + "\n" + row, 3, word)
            self.check(PLACES + "\n" + row + "\nround", 3, word)
            self.check(PLACES + "\nroad q c a\n" + row + "\nround x", 4, word)

    def test_names_of_roads(self):
        self.check(PLACES + "\nroad p a b\nroad p b c\nround", 4, 1)
        self.check(PLACES + "\nroad p a b\nroad q b c\nroad p a b\nround", 5, 1)
        self.check(PLACES + "\nroad p a b\nroad p x x", 4, 1)
        self.assertEqual(read_web(write_web(SAME_NAMES, (("b", "c"),))), (SAME_NAMES, (("b", "c"),)))

    def test_names_like_the_first_words_of_rows(self):
        roads = (("round", "road", "round"), ("road", "place", "road"), ("place", "road", "place"))
        web = (("place", "road", "round"), roads)
        week = (("round", "road", "place"), ("place", "round"))
        text = "place place\nplace road\nplace round"
        text = text + "\nroad round road round\nroad road place road\nroad place road place"
        self.assertEqual(write_web(web, week), text + "\nround round road place\nround place round")
        self.assertEqual(read_web(write_web(web, week)), (web, week))
        self.check(text + "\nround round round", 6, 2)

    def test_a_later_word_that_cannot_be_right(self):
        self.check("place a\nroad", 1, 1)
        self.check("place a\nroad r", 1, 2)
        self.check("place a\nroad r x", 1, 2)
        self.check("place a\nroad r a", 1, 3)
        self.check("place a\nroad r a a", 1, 3)
        self.check("place a\nroad r a b", 1, 3)
        self.check("place a\nroad R a b", 1, 1)

    def test_rows_of_roads_too_many(self):
        fourteen = write_web(FOURTEEN_ROADS, ((),))[:-len("\nround")]
        rows = len(fourteen.split("\n"))
        self.assertEqual(rows, 24)
        for row in ["road x a b", "road", "road r0 a b", "road x a a", "place k"]:
            self.check(fourteen + "\n" + row, 24, 0)
            self.check(fourteen + "\n" + row + "\nround", 24, 0)
        self.check(fourteen, 24, 0)

    def test_rows_of_rounds(self):
        for row, word in [
            ("round ", 1), ("round  p", 1), ("round p ", 2), ("round p  q", 2), ("round x", 1), ("round P", 1),
            ("round a", 1), ("round p a", 2), ("round p p", 2), ("round p q p", 3), ("round p q x", 3),
            ("round q p q", 3), ("round x x", 1), ("round p x q q", 2), ("rounds", 0), ("Round", 0), ("", 0),
            (" round", 0), ("round p\t", 1), ("round\t", 0),
        ]:
            self.check(ROADS + "\n" + row, 5, word)
            self.check(ROADS + "\n" + row + "\nround", 5, word)
            self.check(ROADS + "\nround p q\n" + row, 6, word)
        self.check("place a\nround a", 1, 1)
        self.check("place a\nround ", 1, 1)

    def test_rows_of_rounds_too_many(self):
        four = ROADS + "\nround p q" * 4
        self.assertEqual(read_web(four)[1], (("p", "q"),) * 4)
        for row in ["round", "round p", "round x", "round ", "", "road x a b", "place d"]:
            self.check(four + "\n" + row, 9, 0)

    def test_the_sequence_of_the_kinds(self):
        self.check(ROADS + "\nplace d\nround", 5, 0)
        self.check(ROADS + "\nplace\nround", 5, 0)
        self.check(ROADS + "\nround\nplace d", 6, 0)
        self.check(ROADS + "\nround\nroad r a c", 6, 0)
        self.check(ROADS + "\nround\nroad", 6, 0)
        self.check("place a\nround\nplace b", 2, 0)
        self.check("place a\nplace b\nround\nroad r a b", 3, 0)

    def test_a_further_row_must_come(self):
        self.check("place a", 1, 0)
        self.check(PLACES, 3, 0)
        self.check(ROADS, 5, 0)
        self.check(T_TEXT[:T_TEXT.index("\nround")], 9, 0)

    def test_a_line_feed_at_the_end(self):
        self.check("place a\n", 1, 0)
        self.check(T_TEXT + "\n", 10, 0)
        self.check(T_TEXT + "\n\n", 10, 0)
        self.check(T_TEXT + " ", 9, 5)

    def test_the_first_fault_counts(self):
        self.check("place a\nplace a\nplace A\nx", 1, 1)
        self.check("place A\nplace A", 0, 1)
        self.check("place a b c\nx", 0, 2)
        self.check(PLACES + "\nroad p\nround x", 3, 2)

    def test_one_sign_more_or_less(self):
        samples = [
            (T, WEEK), (APART, ((), ())), (PARALLEL, (("q", "p"), ("p",))), (LONG_NAMES, (("z9999999",),)),
        ]
        for web, week in samples:
            text = write_web(web, week)
            rows = text.split("\n")
            for at in range(len(text)):
                for sign in ["", "a", "z", "7", "A", " ", "\n", "\t", text[at] * 2]:
                    changed = text[:at] + sign + text[at + 1:]
                    try:
                        result = read_web(changed)
                    except BadRows as error:
                        self.assertGreaterEqual(error.row, text[:at].count("\n") - (sign == ""))
                        self.assertLessEqual(error.row, len(rows) + 1)
                    else:
                        self.assertEqual(write_web(*result), changed)

    def test_ten_places_and_four_rounds(self):
        names = tuple(road[0] for road in LINE_OF_TEN[1])
        week = (names, names[::-1], (), names[3:])
        self.assertEqual(read_web(write_web(LINE_OF_TEN, week)), (LINE_OF_TEN, week))


if __name__ == "__main__":
    unittest.main()
