"""A right call or several of every function of the interface, and what is wrong in each of their parameters."""

from roundpost.alike import (
    are_alike, count_alike, exchanges, exchanges_hold, first_alike, local_orders, order_ring, order_ring_holds,
    rota_for, swap_days,
)
from roundpost.best import (
    best_from, best_home, best_tree_rota, kept_best, least_slowest, slow_holds, slow_paper, table_fault, target_rota,
)
from roundpost.denials import beliefs, lags, last_belief, same_days
from roundpost.errors import (
    BadCount, BadIndex, BadMoment, BadOrders, BadPlace, BadRanks, BadRota, BadRows, BadSnow, BadTable, BadTrail, BadWay,
    BadWeb, BadWeek,
)
from roundpost.knowing import all_known, idle_walks, known_at, lessons, needed_roads
from roundpost.news import (
    arrivals, day_table, days, never_holds, never_paper, slowest, trail, trail_end, trail_holds,
)
from roundpost.returns import all_days, answer_moment, saved, there_and_back, tree_sum, turns, way_days
from roundpost.rotas import backwards, ranks, rota_of, turned_rota, walks_between
from roundpost.snow import snow_arrivals, snow_days, worst_snow
from roundpost.texts import read_web, write_web
from roundpost.webs import distance, is_tree, is_web, longest_way, pieces, ring_holds, ring_of, way_of
from samples import PARALLEL, RING_AND_PIECE, T, T_TEXT, TRIANGLE, Touchy

ROTA = ("r", "s", "t", "u")
OTHER = ("t", "r", "s", "u")
WEEK = (("r", "s"), ("t", "u"))
ORDERS = [("r",), ("r", "s"), ("s", "t", "u"), ("t",), ("u",)]
RING_ORDERS = [("q", "p"), ("p", "q")]
TABLE = [[0, 1, 1, 1, 1], [1, 0, 1, 1, 1], [2, 1, 0, 1, 1], [3, 2, 1, 0, 1], [3, 2, 1, 2, 0]]
SNOW = ((2, "s"), (1, "s"), (1, "r"))

# All arguments but those of the first few are of T, and the counts in them are right for what is wrong below.
CALLS = [
    (is_web, {"thing": T}),
    (is_web, {"thing": [T, [], {"a": [1]}]}),
    (distance, {"web": T, "place": "a", "other": "e"}),
    (way_of, {"web": T, "place": "a", "other": "e"}),
    (pieces, {"web": RING_AND_PIECE}),
    (pieces, {"web": T}),
    (is_tree, {"web": T}),
    (longest_way, {"web": T}),
    (ring_of, {"web": TRIANGLE}),
    (ring_of, {"web": T}),
    (ring_holds, {"web": TRIANGLE, "thing": ("x", "y", "z")}),
    (ring_holds, {"web": TRIANGLE, "thing": ["x", ["y"]]}),
    (write_web, {"web": T, "week": WEEK}),
    (read_web, {"text": T_TEXT}),
    (ranks, {"web": T, "rota": ROTA}),
    (rota_of, {"web": T, "ranks": (0, 3, 2, 1)}),
    (turned_rota, {"web": T, "rota": ROTA, "count": 3}),
    (turned_rota, {"web": T, "rota": ROTA, "count": 0}),
    (backwards, {"web": T, "rota": ROTA}),
    (walks_between, {"web": T, "week": WEEK, "moment": (1, 1), "other": (3, 1)}),
    (arrivals, {"web": T, "week": WEEK, "place": "e", "moment": (1, 1)}),
    (days, {"web": T, "week": WEEK, "place": "e", "other": "a"}),
    (day_table, {"web": T, "week": WEEK}),
    (slowest, {"web": T, "week": WEEK}),
    (trail, {"web": T, "week": WEEK, "place": "e", "moment": (1, 1), "other": "a"}),
    (trail_holds, {"web": T, "week": WEEK, "place": "e", "moment": (1, 1), "thing": (("u", 2), ("s", 3))}),
    (trail_holds, {"web": T, "week": WEEK, "place": "e", "moment": (1, 1), "thing": [["u", 2], []]}),
    (trail_end, {"web": T, "week": WEEK, "place": "e", "moment": (1, 1), "trail": (("u", 2), ("s", 3))}),
    (never_paper, {"web": T, "week": (("r", "s"), ()), "place": "a", "other": "e"}),
    (never_holds, {"web": T, "week": (("r", "s"), ()), "place": "a", "other": "e", "thing": ("a", "b", "c")}),
    (never_holds, {"web": T, "week": (("r", "s"), ()), "place": "a", "other": "e", "thing": ["a", ["b"]]}),
    (turns, {"web": T, "rota": ROTA, "way": ("u", "s", "r")}),
    (way_days, {"web": T, "rota": ROTA, "way": ("u", "s", "r")}),
    (there_and_back, {"web": T, "rota": ROTA, "place": "a", "other": "e"}),
    (saved, {"web": TRIANGLE, "rota": ("x", "y", "z")}),
    (saved, {"web": T, "rota": ROTA}),
    (all_days, {"web": T, "rota": ROTA}),
    (tree_sum, {"web": T}),
    (answer_moment, {"web": T, "week": WEEK, "place": "a", "other": "e", "moment": (1, 1)}),
    (local_orders, {"web": T, "rota": ROTA}),
    (are_alike, {"web": T, "rota": ROTA, "other": OTHER}),
    (first_alike, {"web": T, "rota": OTHER}),
    (count_alike, {"web": T, "rota": OTHER}),
    (exchanges, {"web": T, "rota": ("r", "t", "s", "u"), "other": OTHER}),
    (exchanges_hold, {"web": T, "rota": ("r", "t", "s", "u"), "other": OTHER, "thing": [0]}),
    (exchanges_hold, {"web": T, "rota": ("r", "t", "s", "u"), "other": OTHER, "thing": ([0], [])}),
    (rota_for, {"web": T, "orders": ORDERS}),
    (order_ring, {"web": PARALLEL, "orders": RING_ORDERS}),
    (order_ring, {"web": T, "orders": ORDERS}),
    (order_ring_holds, {"web": PARALLEL, "orders": RING_ORDERS, "thing": ("p", "q")}),
    (order_ring_holds, {"web": T, "orders": ORDERS, "thing": ["r", ["s"]]}),
    (swap_days, {"web": T, "rota": ROTA, "index": 2}),
    (best_from, {"web": T, "place": "c"}),
    (best_home, {"web": T, "place": "c"}),
    (best_tree_rota, {"web": T}),
    (least_slowest, {"web": T}),
    (least_slowest, {"web": TRIANGLE}),
    (slow_paper, {"web": T, "days": 1}),
    (slow_paper, {"web": T, "days": 2}),
    (slow_holds, {"web": T, "days": 1, "thing": ("e", "a")}),
    (slow_holds, {"web": T, "days": 1, "thing": ["e", ["a"]]}),
    (kept_best, {"web": T, "rota": ROTA}),
    (target_rota, {"web": T, "table": TABLE}),
    (table_fault, {"web": T, "table": TABLE}),
    (table_fault, {"web": T, "table": [row[:4] + [None] for row in TABLE]}),
    (beliefs, {"web": T, "week": WEEK, "place": "e", "moment": (1, 1), "other": "a", "later": (2, 1)}),
    (last_belief, {"web": T, "week": WEEK, "place": "e", "moment": (1, 1), "other": "a", "later": (2, 1)}),
    (lags, {"web": T, "rota": ROTA, "place": "e", "moment": (1, 1), "later": (2, 0)}),
    (same_days, {"web": T, "rota": ROTA, "place": "c"}),
    (known_at, {"web": T, "week": WEEK, "moment": (2, 1)}),
    (all_known, {"web": T, "week": WEEK}),
    (lessons, {"web": T, "week": WEEK, "count": 9}),
    (idle_walks, {"web": T, "week": WEEK, "count": 9}),
    (needed_roads, {"web": T, "rota": ROTA}),
    (snow_arrivals, {"web": T, "week": WEEK, "place": "a", "moment": (1, 0), "snow": SNOW}),
    (snow_days, {"web": T, "rota": ROTA, "place": "a", "other": "e", "snow": SNOW}),
    (worst_snow, {"web": T, "rota": ROTA, "place": "a", "other": "e", "count": 1}),
]

ERRORS = {
    "web": BadWeb, "place": BadPlace, "other": BadPlace, "rota": BadRota, "week": BadWeek, "moment": BadMoment,
    "ranks": BadRanks, "count": BadCount, "way": BadWay, "orders": BadOrders, "index": BadIndex, "trail": BadTrail,
    "text": BadRows, "days": BadCount, "table": BadTable, "later": BadMoment, "snow": BadSnow,
}
OTHER_ERRORS = {
    (walks_between, "other"): BadMoment, (are_alike, "other"): BadRota, (exchanges, "other"): BadRota,
    (exchanges_hold, "other"): BadRota,
}

# What is wrong of each kind with T and the weeks above.
WRONG = {
    BadWeb: [
        list(T), (T[0], list(T[1])), (list(T[0]), T[1]), (T[0], tuple(map(list, T[1]))), T + ((),), (T[0][1:], T[1]),
        (T[0], T[1] + (("r", "a", "b"),)), (T[0], (("v", "a", "a"),)), (T[0] + ("a",), T[1]), (T[1], T[0]), ((), ()),
    ],
    BadPlace: ["f", "A", "r", "aa", "a ", ("a",), ["a"], b"a", T[0], Touchy()],
    BadRota: [
        list(ROTA), ROTA[1:], ROTA + ("r",), ("r", "s", "t", "t"), ("r", "s", "t", "v"), ("r", "s", "t", None), "rstu",
        ("r", "s", "t", ("u",)), ("r", "s", "t", ["u"]), (ROTA,), (0, 1, 2, 3), (), ("r", "s", "t", Touchy()),
    ],
    BadWeek: [
        (), list(WEEK), [ROTA], (list(ROTA),), (ROTA, list(ROTA)), (ROTA,) * 5, ROTA, (("r", "r"),), (ROTA + ("r",),),
        (("r", "v"),), (("r", None),), (("r", True),), ((("r",),),), (("a",),), ("rs",), (ROTA, None), ((Touchy(),),),
        (ROTA, Touchy()), ({"r": 1},), (("R",),),
    ],
    BadMoment: [
        [1, 0], (1,), (1, 0, 0), (0, 0), (-1, 0), (1, 5), (1, -1), (1000001, 0), (True, 0), (1, False), (1, True),
        ("1", 0), (1, "0"), (None, 0), (1, None), ((1, 0),), ((1,), 0), (1, (0,)), (Touchy(), 0), (1, Touchy()), (),
        (10 ** 59, 0), (1, 10 ** 59), 1, "10", {1: 0}, (10 ** 6 + 3, 1),
    ],
    BadRanks: [
        [0, 1, 2, 3], (0, 1, 2), (0, 1, 2, 3, 4), (1, 2, 3, 4), (0, 1, 2, 2), (0, True, 2, 3), (False, 1, 2, 3), ROTA,
        (0, 1, 2, None), (0, 1, 2, (3,)), ((0, 1, 2, 3),), (-1, 0, 1, 2), "0123", (0, 1, 2, Touchy()), (),
    ],
    BadCount: [-1, 1000, 10 ** 59, -10 ** 59, "0", (0,), [0], Touchy()],
    BadWay: [["u", "s"], ("u", "r"), ("r", "s", "r"), ("v",), ("a",), (None,), (("r",),), "rs", (True,), (Touchy(),)],
    BadOrders: [
        tuple(ORDERS), ORDERS[:4], ORDERS + [()], [list(one) for one in ORDERS], ORDERS[::-1], [()] * 5,
        ORDERS[:4] + [None], ORDERS[:4] + [("u", "u")], ORDERS[:4] + [("t",)], ORDERS[:4] + [("v",)],
        ORDERS[:4] + [(True,)], ORDERS[:4] + [(("u",),)], ORDERS[:4] + [(Touchy(),)], ORDERS[:4] + [Touchy()],
    ],
    BadIndex: [-1, 3, 4, 10 ** 59, -10 ** 59, "0", (0,), [0], Touchy()],
    BadTrail: [
        [("u", 2)], (["u", 2],), ("u", 2), (("u", 1),), (("u", 3),), (("r", 1),), (("u", True),), (("u", None),),
        (("u",),), (("u", 2, 0),), (("v", 2),), ((Touchy(), 2),), (("u", Touchy()),), (("u", 2), ("s", 1)), (("u", 0),),
    ],
    BadTable: [
        tuple(TABLE), TABLE[:4], TABLE + [TABLE[0]], [tuple(row) for row in TABLE], [row[1:] for row in TABLE],
        [row + [0] for row in TABLE], TABLE[:4] + [None], TABLE[:4] + [TABLE[4][:4] + [False]],
        TABLE[:4] + [TABLE[4][:4] + [(0,)]], TABLE[:4] + [TABLE[4][:4] + [Touchy()]], TABLE[:4] + [Touchy()],
        TABLE[:4] + [TABLE[4][:4] + ["0"]], [TABLE],
    ],
    BadSnow: [
        list(SNOW), ([1, "r"],), ((1, "r"), (1, "r")), ((0, "r"),), ((1001, "r"),), ((1, "v"),), ((1, "a"),), (1, "r"),
        ((True, "r"),), ((None, "r"),), ((1, None),), (("r", 1),), ((1,),), ((1, "r", 0),), ((1, Touchy()),),
        ((Touchy(), "r"),), tuple((day, "r") for day in range(1, 10)), ((10 ** 59, "r"),), ((-1, "r"),), {(1, "r")},
    ],
    BadRows: ["", "place", "a", T_TEXT + "\n", " " + T_TEXT, T_TEXT[1:]],
}


def error_of(call, name):
    """The error of a parameter of a function, None for one that may be any object."""
    return OTHER_ERRORS.get((call, name), ERRORS.get(name))
