"""A desk that answers rows about a session, and does its deeds."""

from roundpost.alike import are_alike, first_alike
from roundpost.errors import BadCommand
from roundpost.news import trail
from roundpost.returns import all_days, answer_moment
from roundpost.session import Session

FIRST_WEB = (("a", "b", "c", "d", "e"), (("r", "a", "b"), ("s", "b", "c"), ("t", "c", "d"), ("u", "c", "e")))
FIRST_ROTA = ("r", "s", "t", "u")
DIGITS = "0123456789"
MOST_DIGITS = 60
DAWN = (1, 0)


def is_index_word(word):
    """Whether it is one to sixty digits without a 0 ahead, but for 0 itself."""
    if len(word) > MOST_DIGITS or not all([sign in DIGITS for sign in word]):
        return False
    return word == "0" or word[0] != "0"


def told(day):
    """A number of days, or that it never is."""
    return "never" if day is None else str(day)


def say_days(session, words):
    """The day on which news comes from the one place to the other."""
    return told(session.days(words[0], words[1]))


def say_answer(session, words):
    """The day on which an answer is home."""
    moment = answer_moment(session.web(), (session.rota(),), words[0], words[1], DAWN)
    return told(None if moment is None else moment[0])


def say_slow(session, words):
    """The slowest days and their places."""
    day, place, other = session.slowest()
    return " ".join([told(day), place, other])


def say_trail(session, words):
    """How many roads a trail has."""
    steps = trail(session.web(), (session.rota(),), words[0], DAWN, words[1])
    return told(None if steps is None else len(steps))


def say_first(session, words):
    """The first of the rotas that are alike to the session's."""
    return " ".join(first_alike(session.web(), session.rota()))


def say_alike(session, words):
    """Whether this rota is alike to the session's."""
    return "yes" if are_alike(session.web(), session.rota(), tuple(words)) else "no"


def say_sum(session, words):
    """The sum of all days."""
    return str(all_days(session.web(), session.rota()))


def do_swap(session, words):
    """Exchanges two neighbours of the rota."""
    session.exchange(int(words[0]))
    return "ok"


def do_close(session, words):
    """Closes a road."""
    session.close(words[0])
    return "ok"


def do_build(session, words):
    """Builds a road."""
    session.build(words[0], words[1], words[2])
    return "ok"


def do_undo(session, words):
    """Takes back the last deed."""
    session.undo()
    return "ok"


ACTIONS = {
    "days": say_days, "answer": say_answer, "slow": say_slow, "trail": say_trail, "first": say_first,
    "alike": say_alike, "swap": do_swap, "close": do_close, "build": do_build, "undo": do_undo, "sum": say_sum,
}
WORDS_BEHIND = {
    "days": 2, "answer": 2, "slow": 0, "trail": 2, "first": 0, "swap": 1, "close": 1, "build": 3, "undo": 0, "sum": 0,
}


def is_form(words):
    """Whether a row of these words is of one of the forms that a desk answers."""
    head, rest = words[0], words[1:]
    if "" in words or head not in ACTIONS:
        return False
    if head == "alike":
        return bool(rest)
    return len(rest) == WORDS_BEHIND[head] and (head != "swap" or is_index_word(rest[0]))


class Desk:
    """A session that begins with a tree of five places, and answers to rows about it."""

    def __init__(self):
        self._session = Session(FIRST_WEB, FIRST_ROTA)

    def say(self, row):
        """The answer to a row; BadCommand for what is no row of one of the forms."""
        words = row.split(" ") if isinstance(row, str) else [""]
        if not is_form(words):
            raise BadCommand("this is no row of one of the forms")
        action = ACTIONS[words[0]]
        return action(self._session, words[1:])

    def session(self):
        """A copy of the session."""
        return self._session.copy()
