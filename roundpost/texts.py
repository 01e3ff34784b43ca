"""Webs and weeks as texts: writing them, and reading them with the place of the first fault."""

from roundpost.errors import BadRows
from roundpost.webs import MOST_PLACES, MOST_ROADS, is_name, need_web
from roundpost.weeks import MOST_ROUNDS, need_week


def write_web(web, week):
    """The text of a web and a week: a row for each place, road and round."""
    need_web(web)
    need_week(web, week)
    places, roads = web
    rows = [("place", place) for place in places]
    rows.extend([("road", *road) for road in roads])
    rows.extend([("round", *names) for names in week])
    return "\n".join([" ".join(row) for row in rows])


def read_web(text):
    """The web and the week of a text; BadRows tells the first row and word that is wrong."""
    if not isinstance(text, str):
        raise BadRows(0, 0)
    told = {"place": [], "road": [], "round": []}
    rows = text.split("\n")
    for at, row in enumerate(rows):
        words = row.split(" ")
        wrong = first_fault(words, told)
        if wrong is not None:
            raise BadRows(at, wrong)
        told[words[0]].append(tuple(words[1:]))
    if not told["round"]:
        raise BadRows(len(rows), 0)
    places = tuple([words[0] for words in told["place"]])
    return (places, tuple(told["road"])), tuple(told["round"])


def first_fault(words, told):
    """The index of the first wrong word of a row behind the rows told, None if all is right."""
    if not head_fits(words[0], told):
        return 0
    for at in range(1, len(words)):
        if not word_fits(words, at, told):
            return at
    least = {"place": 2, "road": 4, "round": 1}
    if len(words) < least[words[0]]:
        return len(words)
    return None


def head_fits(head, told):
    """Whether a row that begins so may come behind the rows told."""
    most = {"place": MOST_PLACES, "road": MOST_ROADS, "round": MOST_ROUNDS}
    if head not in most or len(told[head]) == most[head]:
        return False
    if head == "place":
        return not told["road"] and not told["round"]
    if head == "road" and told["round"]:
        return False
    return bool(told["place"])


def word_fits(words, at, told):
    """Whether the word at this index, behind the first, fits behind those ahead of it."""
    word = words[at]
    places = [row[0] for row in told["place"]]
    names = [row[0] for row in told["road"]]
    if words[0] == "place":
        return at == 1 and is_name(word) and word not in places
    if words[0] == "round":
        return word in names and word not in words[1:at]
    if at == 1:
        return is_name(word) and word not in names
    return at < 4 and word in places and word not in words[2:at]
