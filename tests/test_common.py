"""What point 2 of the document promises for every function of the package."""

import copy
import inspect
import unittest

from calls import CALLS, WRONG, error_of
from roundpost.alike import are_alike, count_alike, exchanges_hold, order_ring_holds
from roundpost.best import least_slowest, slow_holds
from roundpost.errors import BadChain, BadPieces, BadPlace, BadRows, BadWeb, BadWeek
from roundpost.news import days, never_holds, trail_holds
from roundpost.returns import tree_sum
from roundpost.rotas import ranks
from roundpost.texts import read_web, write_web
from roundpost.webs import distance, is_tree, is_web, longest_way, ring_holds, way_of
from samples import ALONE, APART, PARALLEL, T, odd_things
from test_interface import FUNCTIONS

WEEK = (("r", "s"), ("t",))


def lists_in(thing):
    """The lists in a result, at every depth."""
    found = [thing] if isinstance(thing, list) else []
    if isinstance(thing, (list, tuple)):
        for part in thing:
            found = found + lists_in(part)
    return found


class EveryFunction(unittest.TestCase):
    def test_by_position_and_by_name(self):
        for call, arguments in CALLS:
            with self.subTest(call.__name__):
                expected = call(*arguments.values())
                self.assertEqual(call(**arguments), expected)
                self.assertEqual(call(**dict(reversed(list(arguments.items())))), expected)

    def test_no_parameter_more(self):
        for call, arguments in CALLS:
            parameters = inspect.signature(call).parameters.values()
            self.assertEqual([one.name for one in parameters], list(arguments), call.__name__)
            self.assertTrue(all(one.default is inspect.Parameter.empty for one in parameters), call.__name__)

    def test_arguments_stay_as_they_are(self):
        for call, arguments in CALLS:
            before = copy.deepcopy(arguments)
            call(**arguments)
            self.assertEqual(arguments, before, call.__name__)

    def test_equal_calls_return_equal_results_of_the_same_kind(self):
        for call, arguments in CALLS:
            first = call(**arguments)
            second = call(**copy.deepcopy(arguments))
            self.assertEqual(first, second, call.__name__)
            self.assertIs(type(first), type(second), call.__name__)

    def test_lists_are_new(self):
        for call, arguments in CALLS:
            first = call(**arguments)
            expected = copy.deepcopy(first)
            second = call(**arguments)
            found = lists_in(first)
            self.assertEqual(len({id(one) for one in found + lists_in(second)}), len(found) * 2, call.__name__)
            for one in found:
                one.clear()
            self.assertEqual(second, expected, call.__name__)
            self.assertEqual(call(**arguments), expected, call.__name__)

    def test_judges_return_truths(self):
        for thing in odd_things():
            self.assertIs(is_web(thing), False)
            self.assertIs(ring_holds(PARALLEL, thing), False)
            self.assertIs(trail_holds(T, WEEK, "a", (1, 0), thing), False)
            self.assertIs(never_holds(APART, ((),), "a", "b", thing), False)
            self.assertIs(order_ring_holds(PARALLEL, [("p", "q"), ("q", "p")], thing), False)
            self.assertIs(slow_holds(T, 0, thing), False)
            if not isinstance(thing, list) or thing:
                self.assertIs(exchanges_hold(ALONE, (), (), thing), False)
        for web in [T, APART, PARALLEL]:
            self.assertIs(type(is_web(web)), bool)
            self.assertIs(type(is_tree(web)), bool)
            self.assertIs(type(ring_holds(web, ("p", "q"))), bool)
        for call, arguments in CALLS:
            if "thing" in arguments:
                self.assertIs(type(call(**arguments)), bool)

    def test_integers_are_no_truths(self):
        for result in [
            distance(T, "a", "a"), distance(T, "a", "b"), longest_way(PARALLEL)[0], days(T, WEEK, "a", "a"),
            days(T, WEEK, "a", "b"), *ranks(PARALLEL, ("q", "p")), tree_sum(ALONE), count_alike(ALONE, ()),
            least_slowest(ALONE), least_slowest(PARALLEL),
        ]:
            self.assertIs(type(result), int)
        self.assertIs(type(are_alike(ALONE, (), ())), bool)

    def test_every_function_is_called(self):
        called = {f"{call.__module__}.{call.__name__}" for call, _ in CALLS}
        expected = {f"roundpost.{module}.{name}" for module in FUNCTIONS for name in FUNCTIONS[module]}
        self.assertEqual(called, expected)


class WrongArguments(unittest.TestCase):
    def wrong_for(self, error, arguments):
        """Objects that are wrong where this error is raised."""
        whole = [thing for thing in odd_things() if isinstance(thing, int) and not isinstance(thing, bool)]
        found = [thing for thing in odd_things() if not any(thing is one for one in whole)]
        if error is BadChain:
            found = [thing for thing in found if repr(thing) != "(0, 1)"]
        return found + (WRONG[error] if arguments.get("web", T) == T or error is BadWeb else [])

    def test_each_wrong_argument_raises_its_error(self):
        for call, arguments in CALLS:
            for name in arguments:
                error = error_of(call, name)
                if error is not None and call is not read_web:
                    for thing in self.wrong_for(error, arguments):
                        self.assertRaises(error, call, **{**arguments, name: thing})

    def test_the_first_wrong_one_raises_its_error(self):
        for call, arguments in CALLS:
            names = list(arguments)
            for at, name in enumerate(names):
                error = error_of(call, name)
                if error is not None and call is not read_web:
                    wrong = dict.fromkeys(names[at + 1:])
                    for thing in self.wrong_for(error, arguments)[::3]:
                        self.assertRaises(error, call, **{**arguments, name: thing, **wrong})

    def test_what_any_object_may_be_raises_nothing(self):
        for call, arguments in CALLS:
            if "thing" in arguments:
                for thing in odd_things():
                    self.assertIn(call(**{**arguments, "thing": thing}), [True, False])

    def test_wrong_arguments_stay_as_they_are(self):
        for call, arguments in CALLS:
            for name in arguments:
                for thing in [[1, [2]], {"a": [1]}, [["r"], ("s",)]]:
                    before = copy.deepcopy(thing)
                    try:
                        call(**{**arguments, name: thing})
                    except ValueError:
                        pass
                    self.assertEqual(thing, before)


class SequenceOfErrors(unittest.TestCase):
    def test_the_web_comes_first(self):
        for call in [distance, way_of]:
            self.assertRaises(BadWeb, call, None, None, None)
            self.assertRaises(BadWeb, call, [T[0], T[1]], "a", "x")
            self.assertRaises(BadPlace, call, T, None, None)
            self.assertRaises(BadPlace, call, APART, "c", "d")
        self.assertRaises(BadWeb, ring_holds, None, None)
        self.assertRaises(BadWeb, write_web, None, None)
        self.assertRaises(BadWeek, write_web, T, None)
        self.assertRaises(BadWeek, write_web, APART, WEEK)

    def test_what_is_no_web_has_not_several_pieces(self):
        self.assertRaises(BadWeb, longest_way, (("a", "b", "B"), ()))
        self.assertRaises(BadPieces, longest_way, (("a", "b", "c"), ()))

    def test_no_text_at_all(self):
        for thing in [None, True, 0, [], ()] + WRONG[BadRows]:
            self.assertRaises(BadRows, read_web, thing)


if __name__ == "__main__":
    unittest.main()
