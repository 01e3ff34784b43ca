import unittest

from roundpost.denials import beliefs
from roundpost.errors import BadCount, BadScript, BadWeb, BadWeek
from roundpost.news import arrivals
from roundpost.returns import answer_moment
from roundpost.scripts import open_questions, run_script, standing
from samples import (
    ALONE, APART, FIVE_PAIRS, FOURTEEN_ROADS, LINE, PARALLEL, RING_AND_PIECE, SQUARE, STAR, T, Touchy, names_of,
    odd_things, small_webs, some_weeks,
)
from slow import round_on, slow_moments, slow_walks

ROTA = ("r", "s", "t", "u")
WEEK = (ROTA,)


def script_for(web, week, at):
    """A script with tells, denials and asks of several words, at moments that change with at."""
    every = slow_moments(week, 1, 9)
    moments = [every[min(at % 5 + k * (1 + at % 7), len(every) - 1)] for k in range(4)]
    places = web[0] * 3
    one, two, three = places[at % len(web[0]):][:3]
    found = [("tell", moments[0], one, "w1"), ("tell", moments[0], two, "b2")]
    if one != two:
        found.append(("ask", moments[1], one, two, "q"))
    found.append(("deny", moments[1], three, "w1"))
    if two != three:
        found.append(("ask", moments[-2], two, three, "a"))
    found.append(("tell", moments[-2], three, "w0"))
    found.append(("deny", moments[-1], one, "w0"))
    return tuple(found)


def seen(web, week, script, count):
    """What happens, by carrying at each walk what stands at its ends: the list of (moment, what, number, word)."""
    ends = {name: (near, far) for name, near, far in web[1]}
    end = (count, len(round_on(week, count)))
    walks = [((day, k), (day, k + 1), ends[name]) for day, k, name in slow_walks(week, 1, count)]
    happened = []
    # What goes about, each as (kind, word, place and moment from which on it is there).
    starts = [(deed[0], deed[-1], deed[2], deed[1]) for deed in script]
    goals = {deed[-1]: deed[3] for deed in script if deed[0] == "ask"}
    askers = {deed[-1]: deed[2] for deed in script if deed[0] == "ask"}
    while starts:
        kind, word, place, moment = starts.pop()
        if moment > end:
            continue
        has = {place: moment}
        for ahead, behind, (near, far) in walks:
            for here, there in [(near, far), (far, near)]:
                if here in has and has[here] <= ahead and there not in has:
                    has[there] = behind
        if kind in ("tell", "deny"):
            what = "heard" if kind == "tell" else "denied"
            happened += [(has[one], what, web[0].index(one), word) for one in has]
        elif kind == "ask" and goals[word] in has:
            happened.append((has[goals[word]], "asked", web[0].index(goals[word]), word))
            starts.append(("answer", word, goals[word], has[goals[word]]))
        elif kind == "answer" and askers[word] in has:
            happened.append((has[askers[word]], "answered", web[0].index(askers[word]), word))
    return sorted(happened)


class Running(unittest.TestCase):
    def test_by_hand(self):
        script = (("tell", (1, 0), "e", "fire"), ("deny", (1, 4), "c", "fire"), ("ask", (1, 4), "a", "d", "who"))
        self.assertEqual(run_script(T, WEEK, script, 2), [
            ((1, 0), "heard", "e", "fire"), ((1, 4), "denied", "c", "fire"), ((1, 4), "heard", "c", "fire"),
            ((2, 2), "denied", "b", "fire"), ((2, 2), "heard", "b", "fire"), ((2, 3), "asked", "d", "who"),
            ((2, 3), "denied", "d", "fire"), ((2, 3), "heard", "d", "fire"), ((2, 4), "denied", "e", "fire"),
        ])
        self.assertEqual(run_script(T, WEEK, script, 5)[9:], [
            ((3, 1), "denied", "a", "fire"), ((3, 1), "heard", "a", "fire"), ((5, 1), "answered", "a", "who"),
        ])
        self.assertEqual(run_script(T, WEEK, script, 4)[9:], [
            ((3, 1), "denied", "a", "fire"), ((3, 1), "heard", "a", "fire"),
        ])

    def test_no_deed_and_places_alone(self):
        for call in [run_script, standing, open_questions]:
            self.assertEqual(call(T, WEEK, (), 1), [])
            self.assertEqual(call(ALONE, ((),), (), 200), [])
        self.assertEqual(run_script(ALONE, ((),), (("tell", (1, 0), "a", "x"), ("deny", (1, 0), "a", "x")), 1), [
            ((1, 0), "denied", "a", "x"), ((1, 0), "heard", "a", "x"),
        ])
        self.assertEqual(run_script(APART, ((),), (("ask", (1, 0), "a", "b", "x"), ("tell", (1, 0), "b", "y")), 200), [
            ((1, 0), "heard", "b", "y"),
        ])

    def test_sequence_at_one_moment(self):
        # By what, then by the numbers of the places, which are not the sequence of their names, then by words.
        web = (("c", "a", "b"), (("x", "c", "a"), ("y", "a", "b")))
        script = tuple(("tell", (1, 0), place, word) for place, word in [
            ("b", "w2"), ("a", "w10"), ("c", "w3"), ("a", "w1"), ("b", "w1a"),
        ]) + (("deny", (1, 0), "b", "w10"), ("deny", (1, 0), "c", "w2"))
        self.assertEqual([entry for entry in run_script(web, ((),), script, 1)], [
            ((1, 0), "denied", "c", "w2"), ((1, 0), "denied", "b", "w10"), ((1, 0), "heard", "c", "w3"),
            ((1, 0), "heard", "a", "w1"), ((1, 0), "heard", "a", "w10"), ((1, 0), "heard", "b", "w1a"),
            ((1, 0), "heard", "b", "w2"),
        ])
        asks = (("ask", (1, 0), "c", "a", "q2"), ("ask", (1, 0), "a", "c", "q1"), ("ask", (1, 1), "c", "a", "q0"))
        self.assertEqual(run_script(web, (("x",),), asks, 3), [
            ((1, 1), "asked", "c", "q1"), ((1, 1), "asked", "a", "q2"), ((2, 1), "answered", "c", "q2"),
            ((2, 1), "answered", "a", "q1"), ((2, 1), "asked", "a", "q0"), ((3, 1), "answered", "c", "q0"),
        ])

    def test_walk_by_walk(self):
        webs = [T, ALONE, APART, PARALLEL, SQUARE, RING_AND_PIECE, STAR, LINE, FOURTEEN_ROADS, FIVE_PAIRS]
        for web in webs + small_webs()[::61]:
            for at, week in enumerate(some_weeks(web)):
                for count in [1, 2, 5, 14 + at]:
                    script = script_for(web, week, at + count)
                    found = run_script(web, week, script, count)
                    expected = [(moment, what, web[0][k], word) for moment, what, k, word in seen(
                        web, week, script, count)]
                    self.assertEqual(found, expected)
                    self.check_standing(web, week, script, count)
                    self.check_by_other_modules(web, week, script, count, found)

    def check_standing(self, web, week, script, count):
        happened = seen(web, week, script, count)
        expected = []
        for word in sorted(deed[-1] for deed in script if deed[0] == "tell"):
            heard = {web[0][k] for _, what, k, one in happened if (what, one) == ("heard", word)}
            denied = {web[0][k] for _, what, k, one in happened if (what, one) == ("denied", word)}
            expected.append((word, tuple(sorted(heard - denied)), tuple(sorted(denied))))
        self.assertEqual(standing(web, week, script, count), expected)
        done = {word for _, what, _, word in happened if what == "answered"}
        waiting = sorted((deed[-1], deed[2]) for deed in script if deed[0] == "ask" and deed[-1] not in done)
        self.assertEqual(open_questions(web, week, script, count), waiting)

    def check_by_other_modules(self, web, week, script, count, found):
        end = (count, len(round_on(week, count)))
        believers = {word: places for word, places, _ in standing(web, week, script, count)}
        for deed in script:
            if deed[0] == "ask":
                answer = answer_moment(web, week, deed[2], deed[3], deed[1])
                self.assertEqual((answer, "answered", deed[2], deed[4]) in found, answer is not None and answer <= end)
            else:
                what = "heard" if deed[0] == "tell" else "denied"
                for place, moment in zip(web[0], arrivals(web, week, deed[2], deed[1])):
                    self.assertEqual((moment, what, place, deed[3]) in found, moment is not None and moment <= end)
            if deed[0] == "deny":
                (tell,) = [one for one in script if one[0] == "tell" and one[3] == deed[3]]
                spans = beliefs(web, week, tell[2], tell[1], deed[2], deed[1])
                held = [
                    place for place, span in zip(web[0], spans)
                    if span is not None and span[0] <= end and (span[1] is None or end < span[1])
                ]
                self.assertEqual(believers[deed[3]], tuple(sorted(held)))

    def test_two_hundred_days(self):
        script = (("tell", (200, 4), "a", "x"), ("tell", (201, 0), "a", "y"), ("tell", (10 ** 6, 4), "b", "z"))
        self.assertEqual(run_script(T, WEEK, script, 200), [((200, 4), "heard", "a", "x")])
        self.assertEqual(standing(T, WEEK, script, 200), [("x", ("a",), ()), ("y", (), ()), ("z", (), ())])
        for call in [run_script, standing, open_questions]:
            for count in [0, -1, 201, 10 ** 59, True, None, "1", (1,), [1], Touchy()]:
                self.assertRaises(BadCount, call, T, WEEK, script, count)

    def test_deeds_behind_the_last_day(self):
        script = (
            ("tell", (1, 0), "a", "x"), ("ask", (2, 0), "a", "b", "q"), ("deny", (2, 0), "a", "x"),
            ("tell", (2, 0), "e", "y"),
        )
        self.assertEqual([entry[0] for entry in run_script(T, WEEK, script, 1)], [(1, k) for k in range(5)])
        self.assertEqual(standing(T, WEEK, script, 1), [("x", ("a", "b", "c", "d", "e"), ()), ("y", (), ())])
        self.assertEqual(open_questions(T, WEEK, script, 1), [("q", "a")])
        self.assertEqual(open_questions(T, WEEK, script, 3), [])
        self.assertEqual(open_questions(T, WEEK, script, 2), [("q", "a")])

    def test_denials_that_are_earlier(self):
        script = (("tell", (1, 0), "e", "x"), ("deny", (1, 0), "a", "x"))
        self.assertEqual(standing(T, WEEK, script, 1), [("x", (), ("a", "b", "c", "d", "e"))])
        script = (("tell", (1, 0), "a", "x"), ("deny", (1, 0), "a", "x"))
        self.assertEqual(standing(T, WEEK, script, 1), [("x", (), ("a", "b", "c", "d", "e"))])
        script = (("tell", (1, 0), "a", "x"), ("deny", (1, 0), "e", "x"))
        self.assertEqual(standing(T, WEEK, script, 1), [("x", ("a", "b", "d"), ("c", "e"))])
        # The denial is there, and the news never was.
        script = (("tell", (1, 0), "a", "x"), ("deny", (1, 0), "b", "x"))
        self.assertEqual(run_script(APART, ((),), script, 1), [
            ((1, 0), "denied", "b", "x"), ((1, 0), "heard", "a", "x"),
        ])
        self.assertEqual(standing(APART, ((),), script, 1), [("x", ("a",), ("b",))])

    def test_sorted_by_words(self):
        script = tuple(("tell", (1, 0), "a", word) for word in ["b", "a10", "a2", "a"]) + (
            ("ask", (1, 0), "a", "b", "z"), ("ask", (1, 0), "b", "a", "c"), ("ask", (9, 0), "e", "a", "b3"),
        )
        self.assertEqual([row[0] for row in standing(T, ((),), script, 1)], ["a", "a10", "a2", "b"])
        self.assertEqual(open_questions(T, ((),), script, 1), [("b3", "e"), ("c", "b"), ("z", "a")])


class Scripts(unittest.TestCase):
    def wrong(self, script):
        for call in [run_script, standing, open_questions]:
            self.assertRaises(BadScript, call, T, WEEK, script, 1)
            self.assertRaises(BadScript, call, T, WEEK, script, None)

    def right(self, script):
        for call in [run_script, standing, open_questions]:
            self.assertIs(type(call(T, WEEK, script, 1)), list)

    def test_twenty_deeds_and_more(self):
        many = tuple(("tell", (1, 0), "a", f"w{k}") for k in range(20))
        self.right(many)
        self.wrong(many + (("tell", (1, 0), "a", "w20"),))
        self.right(many[:10] + tuple(("deny", (1, 0), "a", f"w{k}") for k in range(10)))

    def test_denials(self):
        tell, deny = ("tell", (1, 1), "a", "x"), ("deny", (1, 1), "b", "x")
        self.right((tell, deny))
        self.wrong((deny, tell))
        self.wrong((deny,))
        self.wrong((tell, deny, deny))
        self.wrong((tell, deny, ("deny", (1, 2), "c", "x")))
        self.wrong((tell, ("deny", (1, 0), "b", "x")))
        self.wrong((("deny", (1, 0), "b", "x"), tell))
        self.wrong((tell, ("deny", (1, 1), "b", "y")))
        self.right((tell, ("deny", (10 ** 6, 4), "a", "x")))

    def test_words(self):
        tell, ask = ("tell", (1, 1), "a", "x"), ("ask", (1, 1), "a", "b", "x")
        self.wrong((tell, tell))
        self.wrong((tell, ("tell", (1, 2), "b", "x")))
        self.wrong((ask, ask))
        self.wrong((ask, ("ask", (1, 2), "b", "c", "x")))
        self.wrong((tell, ask))
        self.wrong((ask, tell))
        self.wrong((ask, ("deny", (1, 1), "a", "x")))
        self.right((ask, ("ask", (1, 1), "a", "b", "y")))
        self.right((("tell", (1, 0), "a", "a"), ("ask", (1, 0), "a", "b", "r"), ("tell", (1, 0), "a", "tell")))
        for word in ["", "X", "1a", "a b", "abcdefghi", "a_", None, 1, True, ("x",), ["x"], b"x", Touchy()]:
            self.wrong((("tell", (1, 0), "a", word),))
            self.wrong((("ask", (1, 0), "a", "b", word),))
            self.wrong((tell, ("deny", (1, 1), "a", word)))
        self.right((("tell", (1, 0), "a", "abcdefg8"),))

    def test_moments(self):
        self.right((("tell", (1, 2), "a", "x"), ("tell", (1, 2), "a", "y"), ("tell", (2, 0), "a", "z")))
        self.right((("tell", (1, 4), "a", "x"), ("tell", (2, 0), "a", "z")))
        self.wrong((("tell", (1, 3), "a", "x"), ("tell", (1, 2), "a", "y")))
        self.wrong((("tell", (2, 0), "a", "x"), ("tell", (1, 4), "a", "y")))
        self.wrong((("tell", (1, 0), "a", "x"), ("ask", (2, 0), "a", "b", "y"), ("tell", (1, 4), "a", "z")))
        for moment in [(1, 5), (0, 0), (10 ** 6 + 1, 0), [1, 0], (1,), (1, 0, 0), None, 1, (True, 0), (1, False), "10",
                       (1, None), Touchy(), (Touchy(), 0), (1, -1)]:
            self.wrong((("tell", moment, "a", "x"),))
            self.wrong((("ask", moment, "a", "b", "x"),))
        self.assertRaises(BadScript, run_script, T, (ROTA, ("r",)), (("tell", (2, 2), "a", "x"),), 1)
        self.assertEqual(len(run_script(T, (ROTA, ("r",)), (("tell", (2, 1), "a", "x"),), 2)), 1)

    def test_places(self):
        self.wrong((("ask", (1, 0), "a", "a", "x"),))
        for place in ["f", "r", "", None, 0, True, ("a",), ["a"], b"a", Touchy()]:
            self.wrong((("tell", (1, 0), place, "x"),))
            self.wrong((("ask", (1, 0), place, "a", "x"),))
            self.wrong((("ask", (1, 0), "a", place, "x"),))
            self.wrong((("tell", (1, 0), "a", "x"), ("deny", (1, 0), place, "x")))

    def test_forms(self):
        for deed in [
            ["tell", (1, 0), "a", "x"], ("tell", (1, 0), "a"), ("tell", (1, 0), "a", "b", "x"), ("tell",), (),
            ("ask", (1, 0), "a", "x"), ("ask", (1, 0), "a", "b", "c", "x"), ("Tell", (1, 0), "a", "x"), "tell",
            ("", (1, 0), "a", "x"), (None, (1, 0), "a", "x"), (("tell",), (1, 0), "a", "x"), None, 1, True, Touchy(),
            (Touchy(), (1, 0), "a", "x"), ("heard", (1, 0), "a", "x"), {"tell": 1}, ((1, 0), "tell", "a", "x"),
        ]:
            self.wrong((deed,))
            self.wrong((("tell", (1, 0), "b", "w"), deed))
        for thing in odd_things() + [[("tell", (1, 0), "a", "x")], ("tell", (1, 0), "a", "x"), {("tell",): 1}]:
            self.wrong(thing)

    def test_sequence_of_errors(self):
        for call in [run_script, standing, open_questions]:
            self.assertRaises(BadWeb, call, None, None, None, None)
            self.assertRaises(BadWeek, call, T, None, None, None)
            self.assertRaises(BadWeek, call, T, (), (), 0)
            self.assertRaises(BadScript, call, T, WEEK, None, 0)
            self.assertRaises(BadCount, call, T, WEEK, (), 0)


if __name__ == "__main__":
    unittest.main()
