"""What point 2 of the document promises for every function of the package."""

import copy
import inspect
import unittest

from roundpost.errors import BadPieces, BadPlace, BadRows, BadWeb, BadWeek
from roundpost.texts import read_web, write_web
from roundpost.webs import distance, is_tree, is_web, longest_way, pieces, ring_holds, ring_of, way_of
from samples import APART, PARALLEL, RING_AND_PIECE, T, T_TEXT, TRIANGLE, odd_things

WEEK = (("r", "s"), ("t",))

CALLS = [
    (is_web, {"thing": T}),
    (is_web, {"thing": [T, [], {"a": [1]}]}),
    (distance, {"web": T, "place": "a", "other": "e"}),
    (way_of, {"web": T, "place": "a", "other": "e"}),
    (pieces, {"web": RING_AND_PIECE}),
    (pieces, {"web": T}),
    (is_tree, {"web": T}),
    (longest_way, {"web": T}),
    (ring_of, {"web": TRIANGLE}),
    (ring_of, {"web": T}),
    (ring_holds, {"web": TRIANGLE, "thing": ("x", "y", "z")}),
    (ring_holds, {"web": TRIANGLE, "thing": ["x", ["y"]]}),
    (write_web, {"web": T, "week": WEEK}),
    (read_web, {"text": T_TEXT}),
]


def lists_in(thing):
    """The lists in a result, at every depth."""
    found = [thing] if isinstance(thing, list) else []
    if isinstance(thing, (list, tuple)):
        for part in thing:
            found = found + lists_in(part)
    return found


class EveryFunction(unittest.TestCase):
    def test_by_position_and_by_name(self):
        for call, arguments in CALLS:
            with self.subTest(call.__name__):
                expected = call(*arguments.values())
                self.assertEqual(call(**arguments), expected)
                self.assertEqual(call(**dict(reversed(list(arguments.items())))), expected)

    def test_no_parameter_more(self):
        for call, arguments in CALLS:
            parameters = inspect.signature(call).parameters.values()
            self.assertEqual([one.name for one in parameters], list(arguments), call.__name__)
            self.assertTrue(all(one.default is inspect.Parameter.empty for one in parameters), call.__name__)

    def test_arguments_stay_as_they_are(self):
        for call, arguments in CALLS:
            before = copy.deepcopy(arguments)
            call(**arguments)
            self.assertEqual(arguments, before, call.__name__)

    def test_equal_calls_return_equal_results_of_the_same_kind(self):
        for call, arguments in CALLS:
            first = call(**arguments)
            second = call(**copy.deepcopy(arguments))
            self.assertEqual(first, second, call.__name__)
            self.assertIs(type(first), type(second), call.__name__)

    def test_lists_are_new(self):
        for call, arguments in CALLS:
            first = call(**arguments)
            expected = copy.deepcopy(first)
            second = call(**arguments)
            found = lists_in(first)
            self.assertEqual(len({id(one) for one in found + lists_in(second)}), len(found) * 2, call.__name__)
            for one in found:
                one.clear()
            self.assertEqual(second, expected, call.__name__)
            self.assertEqual(call(**arguments), expected, call.__name__)

    def test_judges_return_truths(self):
        for thing in odd_things():
            self.assertIs(is_web(thing), False)
            self.assertIs(ring_holds(PARALLEL, thing), False)
        for web in [T, APART, PARALLEL]:
            self.assertIs(type(is_web(web)), bool)
            self.assertIs(type(is_tree(web)), bool)
            self.assertIs(type(ring_holds(web, ("p", "q"))), bool)

    def test_integers_are_no_truths(self):
        for result in [distance(T, "a", "a"), distance(T, "a", "b"), longest_way(PARALLEL)[0]]:
            self.assertIs(type(result), int)


class SequenceOfErrors(unittest.TestCase):
    def test_the_web_comes_first(self):
        for call in [distance, way_of]:
            self.assertRaises(BadWeb, call, None, None, None)
            self.assertRaises(BadWeb, call, [T[0], T[1]], "a", "x")
            self.assertRaises(BadPlace, call, T, None, None)
            self.assertRaises(BadPlace, call, APART, "c", "d")
        self.assertRaises(BadWeb, ring_holds, None, None)
        self.assertRaises(BadWeb, write_web, None, None)
        self.assertRaises(BadWeek, write_web, T, None)
        self.assertRaises(BadWeek, write_web, APART, WEEK)

    def test_what_is_no_web_has_not_several_pieces(self):
        self.assertRaises(BadWeb, longest_way, (("a", "b", "B"), ()))
        self.assertRaises(BadPieces, longest_way, (("a", "b", "c"), ()))

    def test_no_text_at_all(self):
        for thing in [None, True, 0, [], ()]:
            self.assertRaises(BadRows, read_web, thing)


if __name__ == "__main__":
    unittest.main()
