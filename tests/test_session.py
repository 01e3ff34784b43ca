import copy
import unittest
from random import Random

from roundpost.errors import (
    BadIndex, BadName, BadPlace, BadRoad, BadRota, BadWeb, Full, NothingToUndo, PostError,
)
from roundpost.news import days, slowest
from roundpost.rotas import is_rota
from roundpost.session import Session
from roundpost.webs import is_tree, is_web
from samples import (
    ALONE, APART, FIVE_PAIRS, FOURTEEN_PARALLEL, FOURTEEN_ROADS, LINE_OF_TEN, PARALLEL, RING_AND_PIECE, SQUARE, T, TEN,
    TRIANGLE, Touchy, names_of, odd_things, some_rotas,
)
from slow import slow_slowest, slow_table

ROTA = ("r", "s", "t", "u")
WRONG_INDEXES = [-1, 10 ** 59, -10 ** 59, True, False, None, "0", (0,), [0], Touchy(), b"0"]
WRONG_ROADS = ["v", "a", "R", "", None, 0, True, ("r",), ["r"], b"r", Touchy()]


def state(session):
    return session.web(), session.rota()


class Deeds(unittest.TestCase):
    def test_a_new_session(self):
        session = Session(T, ROTA)
        self.assertEqual(state(session), (T, ROTA))
        self.assertEqual(len(session), 4)
        self.assertEqual(state(Session(web=T, rota=ROTA[::-1])), (T, ROTA[::-1]))
        self.assertEqual(len(Session(ALONE, ())), 0)

    def test_wrong_webs_and_rotas(self):
        for web in odd_things() + [list(T), (T[0], list(T[1])), T + ((),)]:
            self.assertRaises(BadWeb, Session, web, ROTA)
            self.assertRaises(BadWeb, Session, web, None)
        for rota in odd_things() + [list(ROTA), ROTA[1:], ROTA + ("r",), ("r", "s", "t", "t"), "rstu"]:
            self.assertRaises(BadRota, Session, T, rota)
        self.assertRaises(BadRota, Session, T, ())

    def test_they_return_none(self):
        session = Session(T, ROTA)
        for done in [session.exchange(0), session.move("r", 3), session.close("u"), session.build("v", "a", "e"),
                     session.undo()]:
            self.assertIsNone(done)

    def test_exchange(self):
        session = Session(T, ROTA)
        session.exchange(0)
        self.assertEqual(state(session), (T, ("s", "r", "t", "u")))
        session.exchange(index=2)
        self.assertEqual(state(session), (T, ("s", "r", "u", "t")))
        # The roads at index 1 need not have a place in common.
        session.exchange(1)
        self.assertEqual(session.rota(), ("s", "u", "r", "t"))
        for index in WRONG_INDEXES + [3, 4]:
            self.assertRaises(BadIndex, session.exchange, index)
        self.assertEqual(session.rota(), ("s", "u", "r", "t"))
        for web in [ALONE, (("a", "b"), (("p", "a", "b"),))]:
            for index in [-1, 0, 1]:
                self.assertRaises(BadIndex, Session(web, names_of(web)).exchange, index)

    def test_move(self):
        for road in ROTA:
            for index in range(4):
                session = Session(T, ROTA)
                session.move(road, index)
                rest = [name for name in ROTA if name != road]
                self.assertEqual(session.rota(), tuple(rest[:index] + [road] + rest[index:]))
                self.assertEqual(session.rota().index(road), index)
                self.assertEqual(session.web(), T)
                session.undo()
                self.assertEqual(state(session), (T, ROTA))
        session = Session(T, ROTA)
        session.move(index=0, road="u")
        self.assertEqual(session.rota(), ("u", "r", "s", "t"))
        for index in WRONG_INDEXES + [4, 5]:
            self.assertRaises(BadIndex, session.move, "r", index)
        for road in WRONG_ROADS:
            self.assertRaises(BadRoad, session.move, road, 0)
            self.assertRaises(BadRoad, session.move, road, 9)
        self.assertRaises(BadRoad, Session(ALONE, ()).move, "a", 0)
        one = Session((("a", "b"), (("p", "a", "b"),)), ("p",))
        one.move("p", 0)
        self.assertRaises(BadIndex, one.move, "p", 1)
        one.undo()
        self.assertRaises(NothingToUndo, one.undo)

    def test_close(self):
        session = Session(T, ("u", "s", "r", "t"))
        session.close("s")
        web = (T[0], (T[1][0], T[1][2], T[1][3]))
        self.assertEqual(state(session), (web, ("u", "r", "t")))
        self.assertEqual(len(session), 3)
        for road in WRONG_ROADS + ["s"]:
            self.assertRaises(BadRoad, session.close, road)
        for road in ["u", "r", "t"]:
            session.close(road=road)
        self.assertEqual(state(session), ((T[0], ()), ()))
        self.assertRaises(BadRoad, session.close, "t")
        for _ in range(4):
            session.undo()
        self.assertEqual(state(session), (T, ("u", "s", "r", "t")))

    def test_build(self):
        session = Session(T, ROTA[::-1])
        session.build("a", "e", "b")
        self.assertEqual(state(session), ((T[0], T[1] + (("a", "e", "b"),)), ("u", "t", "s", "r", "a")))
        session.build(other="b", place="a", name="z0000000")
        self.assertEqual(session.web()[1][-1], ("z0000000", "a", "b"))
        self.assertEqual(len(session), 6)
        for name in [
            "", "A", "1a", "abcdefghi", "a b", "a_", "r", "a", "z0000000", None, 0, True, ("v",), b"v", Touchy(),
        ]:
            self.assertRaises(BadName, session.build, name, "a", "b")
            self.assertRaises(BadName, session.build, name, None, None)
        for place in ["f", "r", "", None, 0, True, ("a",), ["a"], b"a", Touchy()]:
            self.assertRaises(BadPlace, session.build, "v", place, "a")
            self.assertRaises(BadPlace, session.build, "v", "a", place)
        self.assertRaises(BadPlace, session.build, "v", "a", "a")
        self.assertEqual(len(session), 6)
        self.assertRaises(BadPlace, Session(ALONE, ()).build, "v", "a", "a")

    def test_fourteen_roads(self):
        session = Session(FOURTEEN_ROADS, names_of(FOURTEEN_ROADS))
        self.assertRaises(Full, session.build, "v", "a", "b")
        self.assertRaises(BadName, session.build, "r0", "a", "b")
        self.assertRaises(BadPlace, session.build, "v", "k", "b")
        self.assertRaises(BadPlace, session.build, "v", "a", "a")
        self.assertEqual(state(session), (FOURTEEN_ROADS, names_of(FOURTEEN_ROADS)))
        session.close("r3")
        session.build("r3", "a", "b")
        self.assertEqual(session.rota()[-1], "r3")
        self.assertEqual(session.web()[1][-1], ("r3", "a", "b"))
        self.assertEqual(len(session), 14)
        self.assertRaises(Full, session.build, "v", "a", "b")
        session.undo()
        session.build("v", "d", "e")
        self.assertEqual(session.web()[1][-1], ("v", "d", "e"))

    def test_closed_and_built_again_under_its_name(self):
        session = Session(T, ROTA)
        session.close("r")
        session.build("r", "a", "b")
        self.assertEqual(state(session), ((T[0], T[1][1:] + (("r", "a", "b"),)), ("s", "t", "u", "r")))
        self.assertNotEqual(session, Session(T, ROTA))
        session.undo()
        session.undo()
        self.assertEqual(session, Session(T, ROTA))

    def test_what_is_handed_in_stays(self):
        web, rota = copy.deepcopy(FOURTEEN_PARALLEL), names_of(FOURTEEN_PARALLEL)
        session = Session(web, rota)
        session.close("r4")
        session.exchange(2)
        self.assertEqual((web, rota), (FOURTEEN_PARALLEL, names_of(FOURTEEN_PARALLEL)))


class Undoing(unittest.TestCase):
    def test_nothing_to_undo(self):
        session = Session(T, ROTA)
        self.assertRaises(NothingToUndo, session.undo)
        for index in [9, None]:
            self.assertRaises(BadIndex, session.exchange, index)
        self.assertRaises(NothingToUndo, session.undo)
        session.exchange(0)
        session.undo()
        self.assertRaises(NothingToUndo, session.undo)

    def test_a_move_to_where_it_is_can_be_taken_back(self):
        session = Session(T, ROTA)
        session.exchange(1)
        session.move("u", 3)
        session.undo()
        self.assertEqual(session.rota(), ("r", "t", "s", "u"))
        session.undo()
        self.assertEqual(session.rota(), ROTA)

    def test_fifty_deeds_and_one_more(self):
        session = Session(T, ROTA)
        for k in range(50):
            session.exchange(k % 3)
        held = state(session)
        self.assertRaises(Full, session.exchange, 0)
        self.assertRaises(Full, session.move, "r", 0)
        self.assertRaises(Full, session.close, "r")
        self.assertRaises(Full, session.build, "v", "a", "b")
        # All other errors come ahead of it.
        self.assertRaises(BadIndex, session.exchange, 3)
        self.assertRaises(BadRoad, session.move, "v", 9)
        self.assertRaises(BadIndex, session.move, "r", 4)
        self.assertRaises(BadRoad, session.close, "v")
        self.assertRaises(BadName, session.build, "r", "a", "a")
        self.assertRaises(BadPlace, session.build, "v", "f", "a")
        self.assertRaises(BadPlace, session.build, "v", "a", "a")
        self.assertEqual(state(session), held)
        session.undo()
        session.close("r")
        self.assertRaises(Full, session.close, "s")
        for _ in range(50):
            session.undo()
        self.assertEqual(state(session), (T, ROTA))
        self.assertRaises(NothingToUndo, session.undo)

    def test_long_runs_against_states(self):
        random = Random(39)
        for web in [T, ALONE, APART, PARALLEL, SQUARE, RING_AND_PIECE, FOURTEEN_ROADS, LINE_OF_TEN, FIVE_PAIRS]:
            session = Session(web, names_of(web)[::-1])
            states = [(web, names_of(web)[::-1])]
            for _ in range(400):
                self.step(random, session, states)
                self.assertEqual(state(session), states[-1])
                self.assertIs(is_web(session.web()), True)
                self.assertIs(is_rota(*state(session)), True)
                self.assertEqual(len(session), len(states[-1][1]))
            self.assertLessEqual(len(states), 51)

    def step(self, random, session, states):
        """Does something with the session, and with the list of its states what the document says of it."""
        (places, roads), rota = states[-1]
        kind = random.choice(["exchange", "move", "close", "build", "build", "undo"])
        name = random.choice(rota + ("v", "w7", "x", "y", "B"))
        index = random.randrange(-1, len(rota) + 1)
        near, far = random.choice(places + ("q",)), random.choice(places)
        after, error = states[-1], None
        if kind == "undo":
            error = NothingToUndo if len(states) == 1 else None
            self.do(session.undo, (), error)
            if error is None:
                states.pop()
            return
        rest = tuple(one for one in rota if one != name)
        if kind == "exchange":
            arguments = (index,)
            error = None if 0 <= index < len(rota) - 1 else BadIndex
            if error is None:
                after = ((places, roads), rota[:index] + (rota[index + 1], rota[index]) + rota[index + 2:])
        elif kind == "move":
            arguments = (name, index)
            error = BadRoad if name not in rota else None if 0 <= index < len(rota) else BadIndex
            after = ((places, roads), rest[:index] + (name,) + rest[index:])
        elif kind == "close":
            arguments = (name,)
            error = None if name in rota else BadRoad
            after = ((places, tuple(road for road in roads if road[0] != name)), rest)
        else:
            arguments = (name, near, far)
            error = BadPlace if near == far or near == "q" else Full if len(roads) == 14 else None
            error = BadName if name in rota or name == "B" else error
            after = ((places, roads + ((name, near, far),)), rota + (name,))
        if error is None and len(states) == 51:
            error = Full
        self.do(getattr(session, kind), arguments, error)
        if error is None:
            states.append(after)

    def do(self, call, arguments, error):
        if error is None:
            self.assertIsNone(call(*arguments))
        else:
            with self.assertRaises(PostError) as held:
                call(*arguments)
            self.assertIs(type(held.exception), error)


class Asking(unittest.TestCase):
    def test_days_and_slowest(self):
        for web in [T, ALONE, APART, TRIANGLE, SQUARE, RING_AND_PIECE, FOURTEEN_ROADS]:
            for rota in some_rotas(web):
                session = Session(web, rota)
                self.assertEqual(session.slowest(), slowest(web, (rota,)))
                for place in web[0]:
                    for other in web[0]:
                        self.assertEqual(session.days(place, other), days(web, (rota,), place, other))
        session = Session(T, ROTA)
        session.close("s")
        self.assertIsNone(session.days("a", "e"))
        self.assertEqual(session.slowest(), (None, "a", "c"))
        self.assertEqual(session.days(place="d", other="e"), 1)
        self.assertEqual(session.days(other="d", place="e"), 2)
        for place in ["f", "r", None, 0, ("a",), b"a", Touchy()]:
            self.assertRaises(BadPlace, session.days, place, "a")
            self.assertRaises(BadPlace, session.days, "a", place)
            self.assertRaises(BadPlace, session.days, place, None)

    def test_slowest_against_a_slow_reckoning(self):
        session = Session(T, ROTA)
        for name, place, other in [("v", "a", "e"), ("w", "d", "e"), ("x", "a", "b")]:
            session.build(name, place, other)
            web, rota = state(session)
            self.assertEqual(session.slowest(), slow_slowest(web, slow_table(web, rota)))

    def test_is_best(self):
        session = Session(T, ROTA)
        self.assertIs(session.is_best(), False)
        session.move("s", 3)
        self.assertEqual(session.rota(), ("r", "t", "u", "s"))
        self.assertIs(session.is_best(), True)
        session.build("v", "d", "e")
        self.assertIs(session.is_best(), False)
        session.undo()
        self.assertIs(session.is_best(), True)
        session.close("r")
        self.assertIs(session.is_best(), False)
        session.build("r", "e", "a")
        self.assertIs(session.is_best(), session.slowest()[0] == 2)
        self.assertIs(Session(ALONE, ()).is_best(), True)
        self.assertIs(Session(APART, ()).is_best(), False)
        self.assertIs(Session(PARALLEL, ("p", "q")).is_best(), False)
        self.assertIs(Session(LINE_OF_TEN, names_of(LINE_OF_TEN)).is_best(), False)
        self.assertIs(Session(LINE_OF_TEN, names_of(LINE_OF_TEN)[::2] + names_of(LINE_OF_TEN)[1::2]).is_best(), True)


class Equal(unittest.TestCase):
    def test_by_webs_and_rotas(self):
        self.assertEqual(Session(T, ROTA), Session(T, ROTA))
        self.assertFalse(Session(T, ROTA) != Session(T, ROTA))
        self.assertNotEqual(Session(T, ROTA), Session(T, ("s", "r", "t", "u")))
        turned = (T[0], (("r", "b", "a"),) + T[1][1:])
        self.assertNotEqual(Session(T, ROTA), Session(turned, ROTA))
        self.assertNotEqual(Session(ALONE, ()), Session((("b",), ()), ()))
        one, two = Session(T, ROTA), Session(T, ("s", "r", "t", "u"))
        one.exchange(0)
        self.assertEqual(one, two)
        two.exchange(0)
        two.exchange(0)
        self.assertEqual(one, two)
        one.undo()
        self.assertNotEqual(one, two)

    def test_what_is_no_session(self):
        for thing in [None, True, 0, (T, ROTA), [T, ROTA], T, ROTA, "", object(), 4, {}, Session]:
            self.assertIs(Session(T, ROTA) == thing, False)
            self.assertIs(Session(T, ROTA) != thing, True)
            self.assertIs(thing == Session(T, ROTA), False)
        self.assertIs(type(Session(T, ROTA) == Session(T, ROTA)), bool)

    def test_copies_go_their_own_ways(self):
        session = Session(T, ROTA)
        session.exchange(0)
        session.close("t")
        twin = session.copy()
        self.assertEqual(session, twin)
        self.assertIsNot(session, twin)
        self.assertIs(type(twin), Session)
        twin.build("v", "a", "e")
        self.assertNotEqual(session, twin)
        session.undo()
        self.assertEqual(len(twin), 4)
        twin.undo()
        twin.undo()
        self.assertEqual(session, twin)
        twin.undo()
        self.assertEqual(state(twin), (T, ROTA))
        self.assertEqual(session.rota(), ("s", "r", "t", "u"))
        self.assertRaises(NothingToUndo, twin.undo)
        session.undo()
        self.assertRaises(NothingToUndo, session.undo)

    def test_copies_of_full_sessions(self):
        session = Session(T, ROTA)
        for _ in range(50):
            session.move("r", 0)
        twin = session.copy()
        self.assertRaises(Full, twin.exchange, 0)
        session.undo()
        self.assertRaises(Full, twin.exchange, 0)
        session.exchange(0)
        twin.undo()
        twin.exchange(1)
        self.assertEqual(twin.rota(), ("r", "t", "s", "u"))
        self.assertEqual(session.rota(), ("s", "r", "t", "u"))
        self.assertEqual(Session(TRIANGLE, ("x", "y", "z")).copy().rota(), ("x", "y", "z"))
        self.assertEqual(len(Session((TEN, ()), ()).copy()), 0)


if __name__ == "__main__":
    unittest.main()
