import unittest
from random import Random

from roundpost.alike import are_alike, first_alike
from roundpost.desk import Desk
from roundpost.errors import (
    BadCommand, BadIndex, BadName, BadPieces, BadPlace, BadRoad, BadRota, Full, NothingToUndo, PostError,
)
from roundpost.news import days, slowest, trail, trail_end
from roundpost.returns import all_days, answer_moment
from roundpost.session import Session
from samples import T, Touchy, odd_things

ROTA = ("r", "s", "t", "u")


def told(day):
    return "never" if day is None else str(day)


def answer(session, row):
    """What the desk should say, by the functions of the other modules and the deeds of a session."""
    head, *words = row.split(" ")
    web, rota = session.web(), session.rota()
    week = (rota,)
    if head == "days":
        return told(days(web, week, *words))
    if head == "answer":
        moment = answer_moment(web, week, *words, (1, 0))
        return told(moment and moment[0])
    if head == "slow":
        day, place, other = slowest(web, week)
        return f"{told(day)} {place} {other}"
    if head == "trail":
        steps = trail(web, week, words[0], (1, 0), words[1])
        if steps is not None:
            assert trail_end(web, week, words[0], (1, 0), steps)[0] == words[1]
        return told(None if steps is None else len(steps))
    if head == "first":
        return " ".join(first_alike(web, rota))
    if head == "alike":
        return "yes" if are_alike(web, rota, tuple(words)) else "no"
    if head == "sum":
        return str(all_days(web, rota))
    call = {"swap": session.exchange, "close": session.close, "build": session.build, "undo": session.undo}[head]
    call(*(map(int, words) if head == "swap" else words))
    return "ok"


def some_row(random, session):
    """A row about what the session holds now, now and then with a word that is wrong."""
    (places, _), rota = session.web(), session.rota()
    names = rota + ("v", "w", "x", "y", "z")
    place, other = random.choice(places), random.choice(places + ("q",))
    mixed = list(rota)
    if len(mixed) > 1:
        k = random.randrange(len(mixed) - 1)
        mixed[k], mixed[k + 1] = mixed[k + 1], mixed[k]
    return random.choice([
        f"days {place} {other}", f"answer {other} {place}", "slow", f"trail {place} {other}", "first", "sum",
        " ".join(["alike", *mixed]) if mixed else "alike r", f"swap {random.randrange(len(rota) + 1)}",
        f"close {random.choice(names)}", f"build {random.choice(names)} {place} {other}", "undo", "undo",
        f"build {random.choice(names)} {other} {place}",
    ])


class Saying(unittest.TestCase):
    def test_a_new_desk(self):
        self.assertEqual(Desk().session(), Session(T, ROTA))
        self.assertIs(type(Desk().session()), Session)
        self.assertRaises(NothingToUndo, Desk().session().undo)

    def test_by_hand(self):
        desk = Desk()
        for row, expected in [
            ("days a e", "1"), ("days e a", "3"), ("days a a", "0"), ("answer a e", "4"), ("answer e a", "4"),
            ("answer a a", "1"), ("slow", "3 d a"), ("trail a e", "3"), ("trail e a", "3"), ("trail a a", "0"),
            ("first", "r s t u"), ("alike r s t u", "yes"), ("alike r s u t", "no"), ("sum", "28"), ("swap 0", "ok"),
            ("first", "s r t u"), ("alike s t r u", "yes"), ("alike s t u r", "yes"), ("alike t s r u", "no"),
            ("days a e", "2"), ("swap 2", "ok"), ("days d e", "2"), ("close s", "ok"), ("days a e", "never"),
            ("answer a e", "never"), ("trail a e", "never"), ("slow", "never a c"), ("first", "r u t"),
            ("alike r u t", "yes"), ("alike u r t", "yes"), ("build s e b", "ok"), ("first", "r u t s"), ("sum", "30"),
            ("undo", "ok"), ("undo", "ok"), ("undo", "ok"), ("undo", "ok"), ("first", "r s t u"),
            ("build days a b", "ok"), ("close days", "ok"), ("build r2 a e", "ok"), ("trail a e", "3"),
            ("close u", "ok"), ("trail a e", "1"),
        ]:
            self.assertEqual(desk.say(row), expected, row)
            self.assertIs(type(desk.say("first")), str)
        self.assertEqual(desk.say(row="sum"), str(all_days(desk.session().web(), desk.session().rota())))

    def test_long_runs(self):
        random = Random(40)
        for _ in range(12):
            desk, twin = Desk(), Session(T, ROTA)
            for _ in range(250):
                row = some_row(random, twin)
                try:
                    expected = answer(twin, row)
                except PostError as error:
                    with self.assertRaises(PostError) as held:
                        desk.say(row)
                    self.assertIs(type(held.exception), type(error), row)
                else:
                    self.assertEqual(desk.say(row), expected, row)
                self.assertEqual(desk.session(), twin, row)

    def test_without_roads(self):
        desk = Desk()
        for name in ROTA:
            desk.say(f"close {name}")
        self.assertEqual(desk.say("first"), "")
        self.assertEqual(desk.say("slow"), "never a b")
        self.assertRaises(BadPieces, desk.say, "sum")
        self.assertRaises(BadRota, desk.say, "alike r")
        self.assertRaises(BadCommand, desk.say, "alike")
        self.assertRaises(BadIndex, desk.say, "swap 0")

    def test_sessions_are_copies(self):
        desk = Desk()
        desk.say("swap 1")
        session = desk.session()
        session.undo()
        self.assertEqual(desk.say("first"), "r t s u")
        session.close("r")
        self.assertEqual(len(desk.session()), 4)
        desk.say("undo")
        self.assertEqual(desk.session(), Session(T, ROTA))
        self.assertRaises(NothingToUndo, desk.say, "undo")
        one, two = Desk(), Desk()
        one.say("close r")
        self.assertEqual(two.say("first"), "r s t u")


class Rows(unittest.TestCase):
    def is_no_row(self, row):
        desk = Desk()
        self.assertRaises(BadCommand, desk.say, row)
        self.assertEqual(desk.session(), Session(T, ROTA))
        self.assertRaises(NothingToUndo, desk.session().undo)

    def test_other_objects(self):
        for row in odd_things() + [["slow"], ("slow",), ("days", "a", "e"), b"slow", {"slow": 1}, 4, Session(T, ROTA)]:
            self.is_no_row(row)

    def test_forms(self):
        for row in [
            "days a e", "answer a e", "slow", "trail a e", "first", "alike r", "swap 0", "close r", "build v a e",
            "undo", "sum",
        ]:
            if row not in ("undo", "alike r"):
                self.assertIs(type(Desk().say(row)), str)
            words = row.split(" ")
            for wrong in [
                " " + row, row + " ", " " + row + " ", row.upper(), row.title(), row.replace(" ", "  "), "\n" + row,
                "\t" + row, row.replace(" ", "\t"), row.replace(" ", "\n"), row.replace(" ", "\n", 1), "x" + row,
                row.replace(" ", "\t", 1), " ".join(words[1:]), " ".join(words[:-1]), row.replace(" ", ""),
                words[0] + "s",
                " ".join(words[:1] + words) if words[0] != "alike" else "", row + " a" if words[0] != "alike" else "",
                row + "  a", row + " \n ",
                words[0] + " " + row[len(words[0]):], " ".join(words[::-1]) if len(words) > 1 else "",
            ]:
                if wrong != row:
                    self.is_no_row(wrong)
        for row in [
            "", " ", "a", "days", "days a", "days a e d", "alike", "alike ", "swap", "swap  0", "close", "build v",
            "build v a", "build v a e d", "undo 1", "sum a", "first r", "slow a", "help", "exchange 0", "move r 0",
            "days a\te", "days a\ne", "slow\n", "undo\n", "sum\t",
        ]:
            self.is_no_row(row)

    def test_words_with_line_feeds_and_tabs_are_words(self):
        for row, error in [
            ("days a e\n", BadPlace), ("days a\t e", BadPlace), ("trail \n a", BadPlace), ("answer a \t", BadPlace),
            ("close r\n", BadRoad), ("build v\n a b", BadName), ("alike r s t u\n", BadRota),
            ("build v a b\n", BadPlace),
        ]:
            self.assertRaises(error, Desk().say, row)

    def test_indexes(self):
        for word in [
            "", "-1", "+1", "01", "00", "1.0", "a", "1a", "0x1", "1_0", "1\n", "\t1", "1e0", "x", "0" * 2, "9" * 61,
            "1" + "0" * 60, "-0", "0 0", "()", "1,", "~",
        ]:
            self.is_no_row("swap " + word)
        for word in ["3", "4", "10", "9" * 60, "1" + "0" * 59]:
            self.assertRaises(BadIndex, Desk().say, "swap " + word)
        for k in range(3):
            desk = Desk()
            self.assertEqual(desk.say(f"swap {k}"), "ok")
            there = Session(T, ROTA)
            there.exchange(k)
            self.assertEqual(desk.session(), there)

    def test_words_that_are_wrong(self):
        desk = Desk()
        for row, error in [
            ("days f a", BadPlace), ("days a f", BadPlace), ("days A a", BadPlace), ("answer f a", BadPlace),
            ("answer a r", BadPlace), ("trail a f", BadPlace), ("trail f f", BadPlace), ("close v", BadRoad),
            ("close a", BadRoad), ("close R", BadRoad), ("alike r s t", BadRota), ("alike r s t v", BadRota),
            ("alike r s t t", BadRota), ("alike r s t u r", BadRota), ("alike a", BadRota), ("alike r", BadRota),
            ("build r a b", BadName), ("build V a b", BadName), ("build 1 a b", BadName),
            ("build v1234567x a b", BadName),
            ("build v f b", BadPlace), ("build v a f", BadPlace), ("build v a a", BadPlace), ("undo", NothingToUndo),
            ("swap 3", BadIndex), ("build V f f", BadName), ("build r a a", BadName), ("days f g", BadPlace),
            ("alike ~", BadRota), ("close ~", BadRoad), ("days ~ %", BadPlace),
        ]:
            with self.assertRaises(PostError) as held:
                desk.say(row)
            self.assertIs(type(held.exception), error, row)
            self.assertEqual(desk.session(), Session(T, ROTA))

    def test_full(self):
        desk = Desk()
        for k in range(10):
            self.assertEqual(desk.say(f"build v{k} a b"), "ok")
        self.assertRaises(Full, desk.say, "build w a b")
        self.assertRaises(BadName, desk.say, "build v3 a b")
        self.assertRaises(BadPlace, desk.say, "build w a a")
        for k in range(40):
            self.assertEqual(desk.say("swap 12"), "ok")
        for row, error in [("swap 12", Full), ("swap 13", BadIndex), ("close r", Full), ("close w", BadRoad)]:
            self.assertRaises(error, desk.say, row)
        self.assertEqual(desk.say("undo"), "ok")
        self.assertEqual(desk.say("close r"), "ok")
        self.assertRaises(Full, desk.say, "build r a b")
        for _ in range(50):
            self.assertEqual(desk.say("undo"), "ok")
        self.assertRaises(NothingToUndo, desk.say, "undo")
        self.assertEqual(desk.session(), Session(T, ROTA))

    def test_touchy_objects(self):
        self.is_no_row(Touchy())
        self.is_no_row([Touchy()])


if __name__ == "__main__":
    unittest.main()
