"""Scripts of deeds: what is told, denied and asked, what happens then, and what stands at the end."""

from roundpost.counts import need_count
from roundpost.errors import BadScript
from roundpost.spread import spread
from roundpost.webs import is_name, need_web
from roundpost.weeks import is_moment, need_week, round_of

MOST_DEEDS = 20
MOST_DAYS = 200
DEED_LENGTHS = {"tell": 4, "deny": 4, "ask": 5}


def is_deed(web, week, thing):
    """Whether it is a deed, whatever deeds stand beside it."""
    if not isinstance(thing, tuple) or len(thing) < 2 or not isinstance(thing[0], str):
        return False
    if DEED_LENGTHS.get(thing[0]) != len(thing) or not is_moment(week, thing[1]) or not is_name(thing[-1]):
        return False
    places = thing[2:-1]
    if not all([isinstance(place, str) and place in web[0] for place in places]):
        return False
    return len(set(places)) == len(places)


def words_of(script, what):
    """The list of the words of all deeds that do this."""
    return [deed[-1] for deed in script if deed[0] == what]


def are_words_right(script):
    """Whether no word is told, denied or asked twice, none asked that is told, and each denied behind its tell."""
    told, asked = words_of(script, "tell"), words_of(script, "ask")
    for words in [told, asked, words_of(script, "deny")]:
        if len(set(words)) < len(words):
            return False
    if any([word in told for word in asked]):
        return False
    ahead = [words_of(script[:at], "tell") for at in range(len(script))]
    return all([deed[0] != "deny" or deed[-1] in words for deed, words in zip(script, ahead)])


def is_script(web, week, thing):
    """Whether it is a script: a tuple of at most twenty deeds in the sequence of their moments."""
    if not isinstance(thing, tuple) or len(thing) > MOST_DEEDS:
        return False
    if not all([is_deed(web, week, deed) for deed in thing]):
        return False
    return all([thing[at - 1][1] <= thing[at][1] for at in range(1, len(thing))]) and are_words_right(thing)


def need_scene(web, week, script, count):
    """Raises the error of the first of these that is not right."""
    need_web(web)
    need_week(web, week)
    if not is_script(web, week, script):
        raise BadScript("this is no script of the web and the week")
    need_count(count, 1, MOST_DAYS)


def end_of(week, count):
    """The moment behind the last walk of the last of so many days."""
    return count, len(round_of(week, count))


def come_by(web, week, end, place, moment):
    """The dict of the moments from which on the news is at each place to which it comes by the end."""
    if moment > end:
        return {}
    known = spread(web, week, place, moment)
    return {one: known[one] for one in known if known[one] <= end}


def answered(web, week, end, deed):
    """The moments at which a question and then its answer come, None for each that does not by the end."""
    _, moment, place, other, _ = deed
    asked = come_by(web, week, end, place, moment).get(other)
    if asked is None:
        return None, None
    return asked, come_by(web, week, end, other, asked).get(place)


def happenings(web, week, end, deed):
    """The list of (moment, what, place, word) of what comes of a deed by the end."""
    what, moment, place, word = deed[0], deed[1], deed[2], deed[-1]
    if what == "ask":
        question, answer = answered(web, week, end, deed)
        told = [(question, "asked", deed[3], word), (answer, "answered", place, word)]
        return [one for one in told if one[0] is not None]
    heard = "heard" if what == "tell" else "denied"
    known = come_by(web, week, end, place, moment)
    return [(known[one], heard, one, word) for one in known]


def run_script(web, week, script, count):
    """The list of (moment, what, place, word) of all that happens on so many days."""
    need_scene(web, week, script, count)
    end = end_of(week, count)
    found = []
    for deed in script:
        for moment, what, place, word in happenings(web, week, end, deed):
            # Places come by their numbers, and so are told by these until all is sorted.
            found.append((moment, what, web[0].index(place), word))
    return [(moment, what, web[0][at], word) for moment, what, at, word in sorted(found)]


def standing(web, week, script, count):
    """The ascending list of (word, believers, deniers) at the end of the last day, of each word that is told."""
    need_scene(web, week, script, count)
    end = end_of(week, count)
    come = {"tell": {}, "deny": {}}
    for deed in script:
        if deed[0] in come:
            come[deed[0]][deed[-1]] = come_by(web, week, end, deed[2], deed[1])
    found = []
    for word, heard in come["tell"].items():
        denied = come["deny"].get(word, {})
        # Where the denial has not come by now, it came neither ahead of the news nor behind it.
        found.append((word, tuple(sorted([one for one in heard if one not in denied])), tuple(sorted(denied))))
    return sorted(found)


def open_questions(web, week, script, count):
    """The ascending list of (word, place that asked) of all asks that are not answered at the end of the last day."""
    need_scene(web, week, script, count)
    end = end_of(week, count)
    asks = [deed for deed in script if deed[0] == "ask"]
    return sorted([(deed[-1], deed[2]) for deed in asks if answered(web, week, end, deed)[1] is None])
