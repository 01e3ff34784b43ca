"""Webs, rotas, weeks and wrong objects that several tests use."""

from itertools import combinations, permutations, product

T = (("a", "b", "c", "d", "e"), (("r", "a", "b"), ("s", "b", "c"), ("t", "c", "d"), ("u", "c", "e")))
T_TEXT = "place a\nplace b\nplace c\nplace d\nplace e\nroad r a b\nroad s b c\nroad t c d\nroad u c e\nround r s t u"
ALONE = (("a",), ())
APART = (("a", "b"), ())
PARALLEL = (("a", "b"), (("p", "a", "b"), ("q", "b", "a")))
TRIANGLE = (("a", "b", "c"), (("x", "a", "b"), ("y", "b", "c"), ("z", "c", "a")))
SAME_NAMES = (("a", "b", "c"), (("c", "a", "b"), ("b", "b", "c")))
RING_AND_PIECE = (("z", "m", "a", "k", "b"), (("v", "z", "a"), ("w", "a", "m"), ("a", "m", "z"), ("k", "k", "b")))
SQUARE = (
    ("d", "c", "b", "a"),
    (("h", "a", "b"), ("g", "d", "c"), ("f", "b", "d"), ("e", "c", "a"), ("i", "a", "b")),
)
TEN = tuple("abcdefghij")
LINE_OF_TEN = (TEN, tuple((f"r{k}", TEN[k], TEN[k + 1]) for k in range(9)))
FOURTEEN_ROADS = (TEN, tuple((f"r{k}", TEN[k % 10], TEN[(k + 1 + k // 10) % 10]) for k in range(14)))
FOURTEEN_PARALLEL = (("a", "b"), tuple((f"r{k}", "a", "b") for k in range(14)))
LONG_NAMES = (("abcdefgh", "z0123456"), (("z9999999", "abcdefgh", "z0123456"),))
FIVE_PAIRS = (TEN, tuple((f"r{k}", TEN[k % 5], TEN[k % 5 + 5]) for k in range(14)))
STAR = (("m", "d", "a", "c", "b"), (("q", "m", "d"), ("p", "a", "m"), ("s", "m", "c"), ("o", "b", "m")))
LINE = (
    ("e", "a", "d", "b", "c", "f"),
    (("k", "a", "b"), ("m", "c", "d"), ("l", "b", "c"), ("n", "e", "d"), ("j", "f", "e")),
)

WEBS = [
    T, ALONE, APART, PARALLEL, TRIANGLE, SAME_NAMES, RING_AND_PIECE, SQUARE, LINE_OF_TEN, FOURTEEN_ROADS,
    FOURTEEN_PARALLEL, LONG_NAMES, FIVE_PAIRS, STAR, LINE,
]


class Touchy:
    """An object that can be neither compared nor hashed."""

    __hash__ = None

    def __eq__(self, other):
        raise AssertionError("compared")

    def __len__(self):
        raise AssertionError("measured")


def deep(depth):
    """A list that is nested so deep."""
    thing = []
    for _ in range(depth):
        thing = [thing]
    return thing


def odd_things():
    """Objects that are no web, no week, no way and no name of anything, nor a text of a web."""
    return [
        None, True, False, 0, 1, 2, -1, 10 ** 59, "", " ", "\n", "\t", "A", "1a", "a b", "no such", [], {}, set(),
        frozenset(), b"", b"a", object(), Touchy(), len, Touchy, range(2), (None,), (True, False), (0, 1), ([], []),
        ("",), ["a"], {"a": 1}, {"a"}, ("a", "b", "c", "d"), deep(49), (Touchy(), Touchy()),
        ((Touchy(),), ()), (("a", "b"), (Touchy(),)),
    ]


def small_webs():
    """All webs of up to four places and four roads, but for the names and the sequence of roads."""
    found = []
    for many in range(1, 5):
        places = ("b", "d", "a", "c")[:many]
        pairs = list(combinations(places, 2)) + [(far, near) for near, far in combinations(places[:2], 2)]
        for count in range(5):
            for chosen in product(pairs, repeat=count):
                if many < 4 or count < 4 or chosen[0] == pairs[0]:
                    found.append((places, tuple((f"n{9 - k}", near, far) for k, (near, far) in enumerate(chosen))))
    return found


def names_of(web):
    """The names of the roads, in the web's sequence."""
    return tuple(road[0] for road in web[1])


def all_rotas(web):
    """All rotas of a web, as tuples of the numbers of their roads compare."""
    return list(permutations(names_of(web)))


def some_rotas(web):
    """A few rotas of a web that are unlike each other, where there are several."""
    names = names_of(web)
    return sorted({names, names[::-1], names[::2] + names[1::2], names[2:] + names[:2][::-1]})


def some_weeks(web):
    """Weeks of one to four rounds, with rounds that are empty or lack some roads."""
    names = names_of(web)
    half = len(names) // 2
    return [
        (names,), (names[::-1],), (names[:half], names[half:]), ((), names[1:]), (names[::-2], (), names[:1]),
        (names[half:], names[::2], (), names[:half][::-1]), ((),), (names[:1], names[:1], (), ()),
    ]


def small_trees():
    """All trees of up to five places, each place behind the first joined with one ahead, roads in other sequences."""
    found = []
    for many in range(1, 6):
        places = ("c", "a", "e", "b", "d")[:many]
        for chosen in product(*[places[:k] for k in range(1, many)]):
            roads = tuple((f"n{9 - k}", far, places[k + 1]) for k, far in enumerate(chosen))
            turn = len(found) % max(len(roads), 1)
            found.append((places, roads[turn:] + roads[:turn][::-1]))
    return found


def trees_of_ten():
    """Trees of ten places: a line, stars, and such in which lines meet at one or at two places."""
    found = [LINE_OF_TEN]
    for chosen in [[0] * 9, [0, 0, 0, 1, 2, 3, 4, 5, 6], [0, 0, 1, 2, 3, 4, 5, 5, 7], [0, 1, 0, 1, 2, 3, 4, 5, 6],
                   [0, 1, 2, 3, 4, 2, 3, 4, 5], [0, 1, 2, 3, 3, 3, 2, 1, 0], [0, 1, 1, 0, 4, 5, 2, 7, 8]]:
        roads = [(f"n{k}", TEN[far], TEN[k + 1]) for k, far in enumerate(chosen)]
        found.append((TEN, tuple(roads[::2] + roads[1::2])))
    return found


def walked(web, place, names):
    """The places that the roads lead to, one behind the other, from a place; None if they do not."""
    come_to = []
    here = place
    for name in names:
        ends = [{near, far} for road, near, far in web[1] if road == name]
        if len(ends) != 1 or here not in ends[0]:
            return None
        (here,) = ends[0] - {here}
        come_to.append(here)
    return come_to


def all_ways(web, place, most):
    """The (way, end) of all ways of at most so many roads from a place."""
    found = [((), place)]
    latest = found
    for _ in range(most):
        latest = [
            (way + (name,), far if near == here else near)
            for way, here in latest for name, near, far in web[1] if here in (near, far)
        ]
        found = found + latest
    return found


def all_rings(web):
    """The rings of a web, found by going on from each place until something is come to twice."""
    found = set()
    for start in web[0]:
        open_ways = [()]
        while open_ways:
            way = open_ways.pop()
            for name in [road[0] for road in web[1] if road[0] not in way]:
                come_to = walked(web, start, way + (name,))
                if come_to is None or len(set(come_to)) < len(come_to):
                    continue
                if come_to[-1] != start:
                    open_ways.append(way + (name,))
                elif len(way) > 0:
                    found.add(way + (name,))
    return found
