"""The names and parameters of the interface, each defined in the file under which it stands."""

import ast
import unittest
from pathlib import Path

PACKAGE = Path(__file__).resolve().parent.parent / "roundpost"

FUNCTIONS = {
    "webs": {
        "is_web": ["thing"], "distance": ["web", "place", "other"], "way_of": ["web", "place", "other"],
        "pieces": ["web"], "is_tree": ["web"], "longest_way": ["web"], "ring_of": ["web"],
        "ring_holds": ["web", "thing"],
    },
    "texts": {"write_web": ["web", "week"], "read_web": ["text"]},
    "rotas": {
        "ranks": ["web", "rota"], "rota_of": ["web", "ranks"], "turned_rota": ["web", "rota", "count"],
        "backwards": ["web", "rota"], "walks_between": ["web", "week", "moment", "other"],
    },
    "news": {
        "arrivals": ["web", "week", "place", "moment"], "days": ["web", "week", "place", "other"],
        "day_table": ["web", "week"], "slowest": ["web", "week"],
        "trail": ["web", "week", "place", "moment", "other"],
        "trail_holds": ["web", "week", "place", "moment", "thing"],
        "trail_end": ["web", "week", "place", "moment", "trail"], "never_paper": ["web", "week", "place", "other"],
        "never_holds": ["web", "week", "place", "other", "thing"],
    },
    "returns": {
        "turns": ["web", "rota", "way"], "way_days": ["web", "rota", "way"],
        "there_and_back": ["web", "rota", "place", "other"], "saved": ["web", "rota"], "all_days": ["web", "rota"],
        "tree_sum": ["web"], "answer_moment": ["web", "week", "place", "other", "moment"],
    },
    "alike": {
        "local_orders": ["web", "rota"], "are_alike": ["web", "rota", "other"], "first_alike": ["web", "rota"],
        "count_alike": ["web", "rota"], "exchanges": ["web", "rota", "other"],
        "exchanges_hold": ["web", "rota", "other", "thing"], "rota_for": ["web", "orders"],
        "order_ring": ["web", "orders"], "order_ring_holds": ["web", "orders", "thing"],
        "swap_days": ["web", "rota", "index"],
    },
    "best": {
        "best_from": ["web", "place"], "best_home": ["web", "place"], "best_tree_rota": ["web"],
        "least_slowest": ["web"], "slow_paper": ["web", "days"], "slow_holds": ["web", "days", "thing"],
        "kept_best": ["web", "rota"], "target_rota": ["web", "table"], "table_fault": ["web", "table"],
    },
    "denials": {
        "beliefs": ["web", "week", "place", "moment", "other", "later"],
        "last_belief": ["web", "week", "place", "moment", "other", "later"],
        "lags": ["web", "rota", "place", "moment", "later"], "same_days": ["web", "rota", "place"],
    },
    "knowing": {
        "known_at": ["web", "week", "moment"], "all_known": ["web", "week"], "lessons": ["web", "week", "count"],
        "idle_walks": ["web", "week", "count"], "needed_roads": ["web", "rota"],
    },
    "snow": {
        "snow_arrivals": ["web", "week", "place", "moment", "snow"],
        "snow_days": ["web", "rota", "place", "other", "snow"],
        "worst_snow": ["web", "rota", "place", "other", "count"],
    },
    "rings": {
        "lap": ["web", "rota", "ring"], "ring_day": ["web", "rota", "ring", "count"],
        "ring_back_day": ["web", "rota", "ring", "count"], "chain_day": ["chain", "copies"],
        "chain_back_day": ["chain", "copies"], "chain_answer_day": ["chain", "copies"],
        "reached_on": ["chain", "copies", "day"],
    },
    "reports": {
        "fitting_rotas": ["web", "reports"], "fits": ["web", "rota", "reports"], "sure_orders": ["web", "reports"],
        "parting_pair": ["web", "rota", "other"], "best_question": ["web", "rotas"], "fault_of": ["web", "reports"],
    },
    "scripts": {
        "run_script": ["web", "week", "script", "count"], "standing": ["web", "week", "script", "count"],
        "open_questions": ["web", "week", "script", "count"],
    },
    "demands": {
        "cost_of": ["web", "rota", "demands"], "turn_weights": ["web", "demands"],
        "place_best": ["web", "demands", "place"], "best_cost": ["web", "demands"], "best_for": ["web", "demands"],
        "pair_bound": ["web", "demands"], "demand_ring": ["web", "demands", "place"],
        "demand_ring_holds": ["web", "demands", "place", "thing"], "cheaper_swap": ["web", "rota", "demands"],
    },
    "joints": {
        "cut_places": ["web"], "blocks": ["web"], "block_ends": ["web", "road"],
        "joined_web": ["web", "other", "place"],
        "woven_rota": ["web", "other", "place", "rota", "second", "turns"],
        "across_days": ["web", "other", "place", "rota", "second", "turns", "start", "goal"],
    },
    "letters": {
        "carried": ["web", "rota", "day"], "still_out": ["web", "rota", "day"], "come_home": ["web", "rota", "day"],
        "road_letters": ["web", "road"], "heaviest": ["web", "rota"], "last_letter": ["web", "rota"],
        "letter_days": ["web", "rota"], "lightest_peak": ["web"],
    },
}

CLASSES = {
    ("session", "Session"): {
        "__init__": ["web", "rota"], "exchange": ["index"], "move": ["road", "index"], "close": ["road"],
        "build": ["name", "place", "other"], "undo": [], "web": [], "rota": [], "days": ["place", "other"],
        "slowest": [], "is_best": [], "__len__": [], "__eq__": ["other"], "copy": [],
    },
    ("desk", "Desk"): {"__init__": [], "say": ["row"], "session": []},
}


def defined(module):
    """The functions that a file defines at its module level, by name."""
    tree = ast.parse((PACKAGE / f"{module}.py").read_text())
    return {node.name: node for node in tree.body if isinstance(node, ast.FunctionDef)}


class Interface(unittest.TestCase):
    def test_functions_stand_in_their_files(self):
        for module, functions in FUNCTIONS.items():
            found = defined(module)
            for name, parameters in functions.items():
                with self.subTest(module=module, name=name):
                    self.assertIn(name, found)
                    rest = found[name].args
                    self.assertEqual([one.arg for one in rest.args], parameters)
                    self.assertFalse(rest.posonlyargs or rest.kwonlyargs or rest.defaults or rest.vararg or rest.kwarg)


    def test_methods_stand_in_their_classes(self):
        for (module, name), methods in CLASSES.items():
            body = ast.parse((PACKAGE / f"{module}.py").read_text()).body
            (held,) = [node for node in body if isinstance(node, ast.ClassDef) and node.name == name]
            found = {node.name: node.args for node in held.body if isinstance(node, ast.FunctionDef)}
            for method, parameters in methods.items():
                with self.subTest(name=name, method=method):
                    self.assertEqual([one.arg for one in found[method].args], ["self"] + parameters)
                    self.assertFalse(found[method].defaults or found[method].vararg or found[method].kwarg)


if __name__ == "__main__":
    unittest.main()
