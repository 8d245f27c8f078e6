"""The texts of runs."""

from treeandtrip.errors import TooMany
from treeandtrip.runs import MOST_RUN_DAYS, made_run
from treeandtrip.terms import made_terms
from treeandtrip.webs import made_web
from treeandtrip.words import Words, between, check_length, checked_names, laid_out


def read_run(web, names, terms, text):
    """The run that a text tells."""
    n, _ = made_web(web)
    good = checked_names(n, names)
    made_terms(web, terms)
    words = Words(text)
    words.want("hands")
    hands = words.numbers()
    days = []
    while words.takes(";"):
        words.want("day")
        if len(days) == MOST_RUN_DAYS:
            raise TooMany(words.last)
        tells, asks = told_and_asked(words, good)
        days.append((tells, asks, sends_from(words, good)))
    words.finish()
    return made_run(web, terms, (hands, tuple(days)))


def told_and_asked(words, names):
    """The tells and the asks that the next words tell, if any."""
    tells = []
    if words.takes("tell"):
        tells.append((words.number(), words.spot(names)))
        while words.takes(","):
            tells.append((words.number(), words.spot(names)))
    asks = []
    if words.takes("ask"):
        asks.append(_ask_from(words, names))
        while words.takes(","):
            asks.append(_ask_from(words, names))
    return tuple(tells), tuple(asks)


def _ask_from(words, names):
    place = words.spot(names)
    if not words.takes("home"):
        return place, None
    home = words.spot(names)
    words.want("in")
    return place, (words.number(), home)


def sends_from(words, names):
    """The sends that the next words tell, if any."""
    sends = []
    if words.takes("send"):
        sends.append(_send_from(words, names))
        while words.takes(","):
            sends.append(_send_from(words, names))
    return tuple(sends)


def _send_from(words, names):
    u = words.spot(names)
    words.want("to")
    v = words.spot(names)
    return u, v, words.number()


def print_run(web, names, terms, run):
    """The text of a run."""
    n, _ = made_web(web)
    good = checked_names(n, names)
    hands, days = made_run(web, terms, run)
    parts = [laid_out(["hands"] + [str(many) for many in hands])]
    signs = len(parts[0])
    for day in days:
        parts.append(laid_out([";", "day"] + deeds_in_words(good, day[0], day[1], day[2])))
        # A run can be much longer than a text, so that it is not written to its end in vain.
        signs += len(parts[-1])
        check_length(signs)
    return "".join(parts)


def deeds_in_words(names, tells, asks, sends):
    """The words of the deeds of a day; what is empty is left out."""
    words = []
    for word, rows in [
            ("tell", [[str(index), names[home]] for index, home in tells]),
            ("ask", [_ask_in_words(names, ask) for ask in asks]), ("send", sends_in_words(names, sends))]:
        if rows != []:
            words.append(word)
            words.extend(between(",", rows))
    return words


def _ask_in_words(names, ask):
    place, back = ask
    if back is None:
        return [names[place]]
    return [names[place], "home", names[back[1]], "in", str(back[0])]


def sends_in_words(names, sends):
    """The words of each send."""
    return [[names[u], "to", names[v], str(many)] for u, v, many in sends]
