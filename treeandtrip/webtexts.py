"""The texts of webs and of terms."""

from treeandtrip.basics import MOST_DAYS, MOST_PLACES
from treeandtrip.errors import BadDays, NotTwo, TooMany, Twice
from treeandtrip.terms import are_loans, made_terms
from treeandtrip.webs import made_web
from treeandtrip.words import Words, between, checked_names, laid_out


def read_web(text):
    """The names and the web that a text tells."""
    words = Words(text)
    return web_from(words)


def web_from(words):
    """The names and the web that the words up to the end of a text tell."""
    words.want("places")
    names = _names_from(words)
    days_of = {}
    while words.takes(";"):
        u, v, days = _way_from(words, names, days_of)
        days_of[u, v] = days
    words.finish()
    return names, made_web((len(names), tuple(sorted([pair + (days_of[pair],) for pair in days_of]))))


def _names_from(words):
    names = []
    more = True
    while more:
        name = words.name()
        if len(names) == MOST_PLACES:
            raise TooMany(words.last)
        if name in names:
            raise Twice(words.last)
        names.append(name)
        more = words.takes(",")
    return tuple(names)


def _way_from(words, names, days_of):
    """The next way, with the lesser place first; `days_of` has the ways ahead of it."""
    first = words.spot(names)
    words.want("-")
    second = words.spot(names)
    if second == first:
        raise NotTwo(words.last)
    u, v = min(first, second), max(first, second)
    if (u, v) in days_of:
        raise Twice(words.last)
    days = words.number()
    if not 1 <= days <= MOST_DAYS:
        raise BadDays(words.last)
    return u, v, days


def print_web(web, names):
    """The text of a web, with the ways in the order in which the web has them."""
    n, ways = made_web(web)
    good = checked_names(n, names)
    words = ["places"] + between(",", [[name] for name in good])
    return laid_out(between(";", [words] + ways_in_words(good, ways)))


def ways_in_words(names, ways):
    """The words of each way."""
    return [[names[u], "-", names[v], str(days)] for u, v, days in ways]


def read_terms(web, text):
    """The terms that a text tells."""
    good = made_web(web)
    return terms_from(Words(text), good)


def terms_from(words, web):
    """The terms that the words up to the end of a text tell, for a good web."""
    if words.want_one(("loans", "trips")) == "loans":
        found = _loans_from(words)
    else:
        found = _trips_from(words)
    words.finish()
    return made_terms(web, found)


def _loans_from(words):
    k = words.number()
    words.want("a")
    words.want("day")
    words.want(",")
    longest = words.number()
    words.want("days")
    words.want(",")
    told = words.number()
    words.want("ahead")
    return "loans", k, longest, told


def _trips_from(words):
    k = words.number()
    words.want("a")
    words.want("day")
    words.want(":")
    rows = [words.numbers()]
    while words.takes(";"):
        rows.append(words.numbers())
    return "trips", k, tuple(rows)


def print_terms(web, terms):
    """The text of terms."""
    good = made_terms(web, terms)
    if are_loans(good):
        _, k, longest, told = good
        return f"loans {k} a day, {longest} days, {told} ahead"
    _, k, table = good
    rows = between(";", [[str(days) for days in row] for row in table])
    return laid_out(["trips", str(k), "a", "day", ":"] + rows)
