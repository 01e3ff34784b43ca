"""A right call or several of every function of the interface, and what is wrong in each of their parameters."""

from roundpost.alike import (
    are_alike, count_alike, exchanges, exchanges_hold, first_alike, local_orders, order_ring, order_ring_holds,
    rota_for, swap_days,
)
from roundpost.best import (
    best_from, best_home, best_tree_rota, kept_best, least_slowest, slow_holds, slow_paper, table_fault, target_rota,
)
from roundpost.demands import (
    best_cost, best_for, cheaper_swap, cost_of, demand_ring, demand_ring_holds, pair_bound, place_best, turn_weights,
)
from roundpost.denials import beliefs, lags, last_belief, same_days
from roundpost.errors import (
    BadChain, BadCount, BadDay, BadDemands, BadIndex, BadJoin, BadMoment, BadOrders, BadPlace, BadRanks, BadReports,
    BadRing, BadRoad, BadRota, BadRotas, BadRows, BadScript, BadSnow, BadTable, BadTrail, BadTurns, BadWay, BadWeb,
    BadWeek,
)
from roundpost.joints import across_days, block_ends, blocks, cut_places, joined_web, woven_rota
from roundpost.knowing import all_known, idle_walks, known_at, lessons, needed_roads
from roundpost.letters import (
    carried, come_home, heaviest, last_letter, letter_days, lightest_peak, road_letters, still_out,
)
from roundpost.news import (
    arrivals, day_table, days, never_holds, never_paper, slowest, trail, trail_end, trail_holds,
)
from roundpost.reports import best_question, fault_of, fits, fitting_rotas, parting_pair, sure_orders
from roundpost.returns import all_days, answer_moment, saved, there_and_back, tree_sum, turns, way_days
from roundpost.rings import chain_answer_day, chain_back_day, chain_day, lap, reached_on, ring_back_day, ring_day
from roundpost.rotas import backwards, ranks, rota_of, turned_rota, walks_between
from roundpost.scripts import open_questions, run_script, standing
from roundpost.snow import snow_arrivals, snow_days, worst_snow
from roundpost.texts import read_web, write_web
from roundpost.webs import distance, is_tree, is_web, longest_way, pieces, ring_holds, ring_of, way_of
from samples import PARALLEL, RING_AND_PIECE, STAR, T, T_TEXT, TRIANGLE, Touchy

ROTA = ("r", "s", "t", "u")
OTHER = ("t", "r", "s", "u")
WEEK = (("r", "s"), ("t", "u"))
ORDERS = [("r",), ("r", "s"), ("s", "t", "u"), ("t",), ("u",)]
RING_ORDERS = [("q", "p"), ("p", "q")]
TABLE = [[0, 1, 1, 1, 1], [1, 0, 1, 1, 1], [2, 1, 0, 1, 1], [3, 2, 1, 0, 1], [3, 2, 1, 2, 0]]
SNOW = ((2, "s"), (1, "s"), (1, "r"))
RING = ("y", "z", "x")
REPORTS = (("a", "e", 1), ("e", "a", 3), ("d", "d", 0), ("a", "e", 1))
SCRIPT = (
    ("tell", (1, 0), "a", "one"), ("tell", (1, 1), "e", "two"), ("deny", (1, 1), "b", "one"),
    ("ask", (1, 2), "d", "a", "who"), ("ask", (5, 2), "a", "b", "why"),
)
DEMANDS = (("a", "e", 5), ("e", "d", 3), ("d", "e", 4), ("e", "a", 2))
MORE = (("k", "c", "g"), (("v", "c", "k"), ("w", "k", "g"), ("x", "c", "g")))
SECOND = ("x", "w", "v")
TURNS = (0, 1, 1, 0, 0, 1, 0)
RING_DEMANDS = (("m", "d", 1), ("d", "c", 5), ("c", "b", 5), ("b", "d", 5), ("c", "d", 2))

# All arguments but those of the first few are of T, and the counts in them are right for what is wrong below.
CALLS = [
    (is_web, {"thing": T}),
    (is_web, {"thing": [T, [], {"a": [1]}]}),
    (distance, {"web": T, "place": "a", "other": "e"}),
    (way_of, {"web": T, "place": "a", "other": "e"}),
    (pieces, {"web": RING_AND_PIECE}),
    (pieces, {"web": T}),
    (is_tree, {"web": T}),
    (longest_way, {"web": T}),
    (ring_of, {"web": TRIANGLE}),
    (ring_of, {"web": T}),
    (ring_holds, {"web": TRIANGLE, "thing": ("x", "y", "z")}),
    (ring_holds, {"web": TRIANGLE, "thing": ["x", ["y"]]}),
    (write_web, {"web": T, "week": WEEK}),
    (read_web, {"text": T_TEXT}),
    (ranks, {"web": T, "rota": ROTA}),
    (rota_of, {"web": T, "ranks": (0, 3, 2, 1)}),
    (turned_rota, {"web": T, "rota": ROTA, "count": 3}),
    (turned_rota, {"web": T, "rota": ROTA, "count": 0}),
    (backwards, {"web": T, "rota": ROTA}),
    (walks_between, {"web": T, "week": WEEK, "moment": (1, 1), "other": (3, 1)}),
    (arrivals, {"web": T, "week": WEEK, "place": "e", "moment": (1, 1)}),
    (days, {"web": T, "week": WEEK, "place": "e", "other": "a"}),
    (day_table, {"web": T, "week": WEEK}),
    (slowest, {"web": T, "week": WEEK}),
    (trail, {"web": T, "week": WEEK, "place": "e", "moment": (1, 1), "other": "a"}),
    (trail_holds, {"web": T, "week": WEEK, "place": "e", "moment": (1, 1), "thing": (("u", 2), ("s", 3))}),
    (trail_holds, {"web": T, "week": WEEK, "place": "e", "moment": (1, 1), "thing": [["u", 2], []]}),
    (trail_end, {"web": T, "week": WEEK, "place": "e", "moment": (1, 1), "trail": (("u", 2), ("s", 3))}),
    (never_paper, {"web": T, "week": (("r", "s"), ()), "place": "a", "other": "e"}),
    (never_holds, {"web": T, "week": (("r", "s"), ()), "place": "a", "other": "e", "thing": ("a", "b", "c")}),
    (never_holds, {"web": T, "week": (("r", "s"), ()), "place": "a", "other": "e", "thing": ["a", ["b"]]}),
    (turns, {"web": T, "rota": ROTA, "way": ("u", "s", "r")}),
    (way_days, {"web": T, "rota": ROTA, "way": ("u", "s", "r")}),
    (there_and_back, {"web": T, "rota": ROTA, "place": "a", "other": "e"}),
    (saved, {"web": TRIANGLE, "rota": ("x", "y", "z")}),
    (saved, {"web": T, "rota": ROTA}),
    (all_days, {"web": T, "rota": ROTA}),
    (tree_sum, {"web": T}),
    (answer_moment, {"web": T, "week": WEEK, "place": "a", "other": "e", "moment": (1, 1)}),
    (local_orders, {"web": T, "rota": ROTA}),
    (are_alike, {"web": T, "rota": ROTA, "other": OTHER}),
    (first_alike, {"web": T, "rota": OTHER}),
    (count_alike, {"web": T, "rota": OTHER}),
    (exchanges, {"web": T, "rota": ("r", "t", "s", "u"), "other": OTHER}),
    (exchanges_hold, {"web": T, "rota": ("r", "t", "s", "u"), "other": OTHER, "thing": [0]}),
    (exchanges_hold, {"web": T, "rota": ("r", "t", "s", "u"), "other": OTHER, "thing": ([0], [])}),
    (rota_for, {"web": T, "orders": ORDERS}),
    (order_ring, {"web": PARALLEL, "orders": RING_ORDERS}),
    (order_ring, {"web": T, "orders": ORDERS}),
    (order_ring_holds, {"web": PARALLEL, "orders": RING_ORDERS, "thing": ("p", "q")}),
    (order_ring_holds, {"web": T, "orders": ORDERS, "thing": ["r", ["s"]]}),
    (swap_days, {"web": T, "rota": ROTA, "index": 2}),
    (best_from, {"web": T, "place": "c"}),
    (best_home, {"web": T, "place": "c"}),
    (best_tree_rota, {"web": T}),
    (least_slowest, {"web": T}),
    (least_slowest, {"web": TRIANGLE}),
    (slow_paper, {"web": T, "days": 1}),
    (slow_paper, {"web": T, "days": 2}),
    (slow_holds, {"web": T, "days": 1, "thing": ("e", "a")}),
    (slow_holds, {"web": T, "days": 1, "thing": ["e", ["a"]]}),
    (kept_best, {"web": T, "rota": ROTA}),
    (target_rota, {"web": T, "table": TABLE}),
    (table_fault, {"web": T, "table": TABLE}),
    (table_fault, {"web": T, "table": [row[:4] + [None] for row in TABLE]}),
    (beliefs, {"web": T, "week": WEEK, "place": "e", "moment": (1, 1), "other": "a", "later": (2, 1)}),
    (last_belief, {"web": T, "week": WEEK, "place": "e", "moment": (1, 1), "other": "a", "later": (2, 1)}),
    (lags, {"web": T, "rota": ROTA, "place": "e", "moment": (1, 1), "later": (2, 0)}),
    (same_days, {"web": T, "rota": ROTA, "place": "c"}),
    (known_at, {"web": T, "week": WEEK, "moment": (2, 1)}),
    (all_known, {"web": T, "week": WEEK}),
    (lessons, {"web": T, "week": WEEK, "count": 9}),
    (idle_walks, {"web": T, "week": WEEK, "count": 9}),
    (needed_roads, {"web": T, "rota": ROTA}),
    (snow_arrivals, {"web": T, "week": WEEK, "place": "a", "moment": (1, 0), "snow": SNOW}),
    (snow_days, {"web": T, "rota": ROTA, "place": "a", "other": "e", "snow": SNOW}),
    (worst_snow, {"web": T, "rota": ROTA, "place": "a", "other": "e", "count": 1}),
    (lap, {"web": TRIANGLE, "rota": ("x", "y", "z"), "ring": RING}),
    (ring_day, {"web": TRIANGLE, "rota": ("x", "y", "z"), "ring": RING, "count": 10 ** 15}),
    (ring_back_day, {"web": TRIANGLE, "rota": ("x", "y", "z"), "ring": RING, "count": 7}),
    (chain_day, {"chain": (0, 2, 1), "copies": 2}),
    (chain_back_day, {"chain": (0, 2, 1), "copies": 2}),
    (chain_answer_day, {"chain": (0, 2, 1), "copies": 2}),
    (reached_on, {"chain": (0, 2, 1), "copies": 2, "day": 2}),
    (fitting_rotas, {"web": T, "reports": REPORTS[2:]}),
    (fits, {"web": T, "rota": ROTA, "reports": REPORTS}),
    (sure_orders, {"web": T, "reports": REPORTS}),
    (sure_orders, {"web": T, "reports": REPORTS + (("a", "e", 2),)}),
    (parting_pair, {"web": T, "rota": ROTA, "other": ("t", "s", "r", "u")}),
    (parting_pair, {"web": T, "rota": ROTA, "other": ROTA}),
    (best_question, {"web": T, "rotas": [ROTA, OTHER, ROTA]}),
    (best_question, {"web": T, "rotas": (ROTA, OTHER)}),
    (fault_of, {"web": T, "reports": REPORTS + (("a", "e", 2),)}),
    (fault_of, {"web": T, "reports": REPORTS}),
    (run_script, {"web": T, "week": WEEK, "script": SCRIPT, "count": 9}),
    (standing, {"web": T, "week": WEEK, "script": SCRIPT, "count": 2}),
    (open_questions, {"web": T, "week": WEEK, "script": SCRIPT, "count": 2}),
    (cost_of, {"web": T, "rota": ROTA, "demands": DEMANDS}),
    (turn_weights, {"web": T, "demands": DEMANDS}),
    (place_best, {"web": T, "demands": DEMANDS, "place": "c"}),
    (best_cost, {"web": T, "demands": DEMANDS}),
    (best_for, {"web": T, "demands": DEMANDS}),
    (pair_bound, {"web": T, "demands": DEMANDS}),
    (demand_ring, {"web": T, "demands": DEMANDS, "place": "c"}),
    (demand_ring, {"web": STAR, "demands": RING_DEMANDS, "place": "m"}),
    (demand_ring_holds, {"web": STAR, "demands": RING_DEMANDS, "place": "m", "thing": ("q", "s", "o")}),
    (demand_ring_holds, {"web": T, "demands": DEMANDS, "place": "c", "thing": ["s", ["t"], "u"]}),
    (cheaper_swap, {"web": T, "rota": ROTA, "demands": DEMANDS}),
    (cut_places, {"web": T}),
    (blocks, {"web": RING_AND_PIECE}),
    (block_ends, {"web": T, "road": "s"}),
    (joined_web, {"web": T, "other": MORE, "place": "c"}),
    (woven_rota, {"web": T, "other": MORE, "place": "c", "rota": ROTA, "second": SECOND, "turns": TURNS}),
    (across_days, {
        "web": T, "other": MORE, "place": "c", "rota": ROTA, "second": SECOND, "turns": TURNS, "start": "e",
        "goal": "g",
    }),
    (carried, {"web": T, "rota": ROTA, "day": 2}),
    (still_out, {"web": T, "rota": ROTA, "day": 2}),
    (come_home, {"web": T, "rota": ROTA, "day": 2}),
    (road_letters, {"web": T, "road": "s"}),
    (heaviest, {"web": T, "rota": ROTA}),
    (last_letter, {"web": T, "rota": ROTA}),
    (letter_days, {"web": T, "rota": ROTA}),
    (lightest_peak, {"web": T}),
]

ERRORS = {
    "web": BadWeb, "place": BadPlace, "other": BadPlace, "rota": BadRota, "week": BadWeek, "moment": BadMoment,
    "ranks": BadRanks, "count": BadCount, "way": BadWay, "orders": BadOrders, "index": BadIndex, "trail": BadTrail,
    "text": BadRows, "days": BadCount, "table": BadTable, "later": BadMoment, "snow": BadSnow, "ring": BadRing,
    "chain": BadChain, "copies": BadCount, "day": BadDay, "reports": BadReports, "rotas": BadRotas,
    "script": BadScript, "demands": BadDemands, "road": BadRoad, "second": BadRota, "turns": BadTurns,
    "start": BadPlace, "goal": BadPlace,
}
OTHER_ERRORS = {
    (walks_between, "other"): BadMoment, (are_alike, "other"): BadRota, (exchanges, "other"): BadRota,
    (exchanges_hold, "other"): BadRota, (parting_pair, "other"): BadRota,
    (joined_web, "other"): BadWeb, (woven_rota, "other"): BadWeb, (across_days, "other"): BadWeb,
    (joined_web, "place"): BadJoin, (woven_rota, "place"): BadJoin, (across_days, "place"): BadJoin,
}

# What is wrong of each kind with T and the weeks above.
WRONG = {
    BadWeb: [
        list(T), (T[0], list(T[1])), (list(T[0]), T[1]), (T[0], tuple(map(list, T[1]))), T + ((),), (T[0][1:], T[1]),
        (T[0], T[1] + (("r", "a", "b"),)), (T[0], (("v", "a", "a"),)), (T[0] + ("a",), T[1]), (T[1], T[0]), ((), ()),
    ],
    BadPlace: ["f", "A", "r", "aa", "a ", ("a",), ["a"], b"a", T[0], Touchy()],
    BadRota: [
        list(ROTA), ROTA[1:], ROTA + ("r",), ("r", "s", "t", "t"), ("r", "s", "t", "v"), ("r", "s", "t", None), "rstu",
        ("r", "s", "t", ("u",)), ("r", "s", "t", ["u"]), (ROTA,), (0, 1, 2, 3), (), ("r", "s", "t", Touchy()),
    ],
    BadWeek: [
        (), list(WEEK), [ROTA], (list(ROTA),), (ROTA, list(ROTA)), (ROTA,) * 5, ROTA, (("r", "r"),), (ROTA + ("r",),),
        (("r", "v"),), (("r", None),), (("r", True),), ((("r",),),), (("a",),), ("rs",), (ROTA, None), ((Touchy(),),),
        (ROTA, Touchy()), ({"r": 1},), (("R",),),
    ],
    BadMoment: [
        [1, 0], (1,), (1, 0, 0), (0, 0), (-1, 0), (1, 5), (1, -1), (1000001, 0), (True, 0), (1, False), (1, True),
        ("1", 0), (1, "0"), (None, 0), (1, None), ((1, 0),), ((1,), 0), (1, (0,)), (Touchy(), 0), (1, Touchy()), (),
        (10 ** 59, 0), (1, 10 ** 59), 1, "10", {1: 0}, (10 ** 6 + 3, 1),
    ],
    BadRanks: [
        [0, 1, 2, 3], (0, 1, 2), (0, 1, 2, 3, 4), (1, 2, 3, 4), (0, 1, 2, 2), (0, True, 2, 3), (False, 1, 2, 3), ROTA,
        (0, 1, 2, None), (0, 1, 2, (3,)), ((0, 1, 2, 3),), (-1, 0, 1, 2), "0123", (0, 1, 2, Touchy()), (),
    ],
    BadCount: [-1, 10 ** 15 + 1, 10 ** 59, -10 ** 59, "0", (0,), [0], Touchy()],
    BadWay: [["u", "s"], ("u", "r"), ("r", "s", "r"), ("v",), ("a",), (None,), (("r",),), "rs", (True,), (Touchy(),)],
    BadOrders: [
        tuple(ORDERS), ORDERS[:4], ORDERS + [()], [list(one) for one in ORDERS], ORDERS[::-1], [()] * 5,
        ORDERS[:4] + [None], ORDERS[:4] + [("u", "u")], ORDERS[:4] + [("t",)], ORDERS[:4] + [("v",)],
        ORDERS[:4] + [(True,)], ORDERS[:4] + [(("u",),)], ORDERS[:4] + [(Touchy(),)], ORDERS[:4] + [Touchy()],
    ],
    BadIndex: [-1, 3, 4, 10 ** 59, -10 ** 59, "0", (0,), [0], Touchy()],
    BadTrail: [
        [("u", 2)], (["u", 2],), ("u", 2), (("u", 1),), (("u", 3),), (("r", 1),), (("u", True),), (("u", None),),
        (("u",),), (("u", 2, 0),), (("v", 2),), ((Touchy(), 2),), (("u", Touchy()),), (("u", 2), ("s", 1)), (("u", 0),),
    ],
    BadTable: [
        tuple(TABLE), TABLE[:4], TABLE + [TABLE[0]], [tuple(row) for row in TABLE], [row[1:] for row in TABLE],
        [row + [0] for row in TABLE], TABLE[:4] + [None], TABLE[:4] + [TABLE[4][:4] + [False]],
        TABLE[:4] + [TABLE[4][:4] + [(0,)]], TABLE[:4] + [TABLE[4][:4] + [Touchy()]], TABLE[:4] + [Touchy()],
        TABLE[:4] + [TABLE[4][:4] + ["0"]], [TABLE],
    ],
    BadSnow: [
        list(SNOW), ([1, "r"],), ((1, "r"), (1, "r")), ((0, "r"),), ((1001, "r"),), ((1, "v"),), ((1, "a"),), (1, "r"),
        ((True, "r"),), ((None, "r"),), ((1, None),), (("r", 1),), ((1,),), ((1, "r", 0),), ((1, Touchy()),),
        ((Touchy(), "r"),), tuple((day, "r") for day in range(1, 10)), ((10 ** 59, "r"),), ((-1, "r"),), {(1, "r")},
    ],
    BadChain: [
        [0, 2, 1], (0,), (0, 2, 0), tuple(range(13)), (0, True), (0, None), (0, "1"), (0, (1,)), ((0, 1),), {0: 1},
        (0, Touchy()), "012", (True, False), range(3),
    ],
    BadDay: [-1, 10 ** 18 + 1, 10 ** 59, -10 ** 59, "1", (1,), [1], Touchy()],
    BadReports: [
        list(REPORTS), (["a", "e", 1],), ("a", "e", 1), (("a", "e"),), (("a", "e", 1, 1),), (("a", "f", 1),),
        (("f", "a", 1),), (("a", "e", -1),), (("a", "e", 101),), (("a", "e", True),), (("a", "e", None),),
        (("a", None, 1),), (("a", "e", "1"),), ((Touchy(), "e", 1),), (("a", "e", Touchy()),), REPORTS * 8,
        {REPORTS[0]}, (("a", "e", (1,)),), REPORTS[:1] + (None,),
    ],
    BadRotas: [
        [ROTA], (ROTA,), [], (), ROTA, {ROTA: 1, OTHER: 1}, {ROTA, OTHER}, [ROTA, list(OTHER)], [ROTA, ROTA[1:]],
        [ROTA, ROTA + ("r",)], [ROTA, None], (ROTA, ()), (ROTA, ("r", "s", "t", "t")), [ROTA, Touchy()], "rs",
        [ROTA, OTHER, True], [[ROTA, OTHER], [ROTA, OTHER]],
    ],
    BadScript: [
        list(SCRIPT), [SCRIPT[0]], (list(SCRIPT[0]),), SCRIPT[0], SCRIPT[::-1], SCRIPT[2:], SCRIPT[:1] * 2, (None,),
        (("tell", (1, 0), "a"),), (("tell", (1, 0), "a", "b", "one"),), (("tell", [1, 0], "a", "one"),), (Touchy(),),
        (("ask", (1, 0), "a", "who"),), (("ask", (1, 0), "a", "a", "who"),), SCRIPT[3:4] * 2, (("ask",),), ((),),
        (("tell", (1, 3), "a", "one"),), (("tell", (1, 0), "f", "one"),), (("tell", (1, 0), "a", "One"),),
        (("told", (1, 0), "a", "one"),), (("tell", (1, 0), "a", None),), ((None, (1, 0), "a", "one"),),
        SCRIPT + (("deny", (6, 0), "b", "one"),), SCRIPT + (("ask", (6, 0), "a", "b", "one"),),
        SCRIPT + (("tell", (6, 0), "a", "who"),), SCRIPT + (("deny", (6, 0), "a", "who"),),
    ],
    BadDemands: [
        list(DEMANDS), (list(DEMANDS[0]),), DEMANDS[0], DEMANDS + DEMANDS[:1], (("a", "a", 1),), (("a", "f", 1),),
        (("a", "e", 0),), (("a", "e", 10 ** 6 + 1),), (("a", "e", True),), (("a", "e", None),), (("a", "e"),),
        (("a", "e", 1, 1),), (("a", "e", "1"),), (("a", None, 1),), ((Touchy(), "e", 1),), (("a", "e", Touchy()),),
        (("a", "e", 1), ("a", "e", 2)), {DEMANDS[0]}, (None,), (("a", "e", -1),),
    ],
    BadJoin: ["a", "b", "k", "g", "v", "r", "C", "cc", "c ", ("c",), ["c"], b"c", MORE[0], Touchy()],
    BadTurns: [
        list(TURNS), TURNS[1:], TURNS + (0,), TURNS + (1,), (0,) * 7, (0, True) + TURNS[2:], (False,) + TURNS[1:],
        TURNS[:6] + (None,), TURNS[:6] + (2,), TURNS[:6] + (-1,), TURNS[:6] + ("0",), TURNS[:6] + ((0,),), "0110010",
        (TURNS,), TURNS[:6] + (Touchy(),), (), TURNS[:6] + (1,), TURNS[:6] + (10 ** 59,),
    ],
    BadRoad: ["v", "a", "R", "rr", "r ", ("r",), ["r"], b"r", ROTA, Touchy()],
    BadRows: ["", "place", "a", T_TEXT + "\n", " " + T_TEXT, T_TEXT[1:]],
}


def error_of(call, name):
    """The error of a parameter of a function, None for one that may be any object."""
    return OTHER_ERRORS.get((call, name), ERRORS.get(name))
