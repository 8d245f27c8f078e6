"""The desk: rows are done one by one, and each has a reply."""

from treeandtrip.clusters import moats
from treeandtrip.errors import BadText, NoHouse, NoRun, NoTerms, NoWeb, Refused, Twice
from treeandtrip.foe import foe_day
from treeandtrip.housetexts import house_from
from treeandtrip.hunt import hunted
from treeandtrip.live import Live
from treeandtrip.lost import lost_paper
from treeandtrip.numbers import needed, reserve
from treeandtrip.plain import Plain
from treeandtrip.runtexts import deeds_in_words, print_run, sends_from, sends_in_words, told_and_asked
from treeandtrip.shelf import Shelf
from treeandtrip.terms import most_asks
from treeandtrip.trees import least_tree, tree_length
from treeandtrip.webtexts import terms_from, ways_in_words, web_from
from treeandtrip.words import Words, between, laid_out
from treeandtrip.worths import free_ways, loan_gain, notice_gain, place_gain, way_gain

NEED_NO_TERMS = ("web", "terms", "tree", "moats", "free", "house")
NEED_ANY_RUN = ("next", "foe", "lost", "hands", "log")
NEED_A_LIVE = ("back", "again")


class Desk:
    """A desk that keeps a web, terms, houses and a run."""

    def __init__(self):
        self._shelf = Shelf()

    def row(self, text):
        """Do a row, and return its reply; a row that is refused changes nothing."""
        try:
            return _reply(self._shelf, text)
        except Refused as error:
            name = type(error).__name__
            return f"refused: {name} {error.what}"


def _reply(shelf, text):
    words = Words(text)
    word = words.next_word()
    if word == "":
        raise BadText(0)
    if word not in ROWS:
        raise BadText(words.next_place())
    _check_needs(shelf, word)
    words.step()
    act = ROWS[word]
    return act(shelf, words)


def _check_needs(shelf, word):
    """Refuse a row that needs what the desk does not have."""
    if shelf.web is None and word != "web":
        raise NoWeb(0)
    if shelf.terms is None and word not in NEED_NO_TERMS:
        raise NoTerms(0)
    if word in NEED_ANY_RUN and shelf.going is None:
        raise NoRun(0)
    if word in NEED_A_LIVE and not isinstance(shelf.going, Live):
        raise NoRun(0)
    if word == "owed" and not isinstance(shelf.going, Plain):
        raise NoRun(0)


def _listed(sign, rows):
    """The text of these rows of words, with the sign between each two rows."""
    return "-" if rows == [] else laid_out(between(sign, rows))


def _web(shelf, words):
    names, web = web_from(words)
    shelf.lay_web(names, web)
    return f"{web[0]} places, {len(web[1])} ways"


def _terms(shelf, words):
    shelf.lay_terms(terms_from(words, shelf.web))
    return "ok"


def _number(shelf, words):
    words.finish()
    web, terms = shelf.web, shelf.terms
    tree = least_tree(web)
    summed = f"{tree_length(web, tree)} + {reserve(web, terms, tree)}"
    return f"{most_asks(web, terms)} * ({summed}) = {needed(web, terms)}"


def _tree(shelf, words):
    words.finish()
    return _listed(";", ways_in_words(shelf.names, least_tree(shelf.web)))


def _moats(shelf, words):
    words.finish()
    rows = [_named(shelf, lot) + [":", str(days)] for lot, days in moats(shelf.web)]
    return _listed(";", rows)


def _named(shelf, places):
    return [shelf.names[place] for place in places]


def _gain(shelf, words):
    u = words.spot(shelf.names)
    v = words.spot(shelf.names)
    days = words.number()
    words.finish()
    return str(way_gain(shelf.web, shelf.terms, u, v, days))


def _free(shelf, words):
    words.finish()
    return _listed(";", ways_in_words(shelf.names, free_ways(shelf.web)))


def _notice(shelf, words):
    words.finish()
    return str(notice_gain(shelf.web, shelf.terms))


def _loan(shelf, words):
    words.finish()
    return str(loan_gain(shelf.web, shelf.terms))


def _place(shelf, words):
    days_to = {}
    more = True
    while more:
        place = words.spot(shelf.names)
        if place in days_to:
            raise Twice(words.last)
        days_to[place] = words.number()
        more = words.takes(",")
    words.finish()
    return str(place_gain(shelf.web, shelf.terms, tuple(sorted(days_to.items()))))


def _house(shelf, words):
    name = words.name()
    shelf.lay_house(name, house_from(words, shelf.names))
    return "ok"


def _hunt(shelf, words):
    name = words.name()
    if name not in shelf.houses:
        raise NoHouse(words.last)
    hands = words.numbers()
    words.finish()
    found = hunted(shelf.web, shelf.terms, shelf.houses[name], hands)
    if found is None:
        return "stands"
    run, _, asks = found
    return f"lacks on day {len(run[1])} at {shelf.names[asks[-1][0]]}"


def _plain(shelf, words):
    root = words.spot(shelf.names)
    words.finish()
    shelf.lay_run(Plain(shelf.web, shelf.terms, least_tree(shelf.web), root))
    return "begun"


def _live(shelf, words):
    hands = words.numbers()
    words.finish()
    shelf.lay_run(Live(shelf.web, shelf.terms, hands))
    return "begun"


def _next(shelf, words):
    tells, asks = told_and_asked(words, shelf.names)
    if isinstance(shelf.going, Plain):
        words.finish()
        return _listed(",", sends_in_words(shelf.names, shelf.going.take(tells, asks)))
    sends = sends_from(words, shelf.names)
    words.finish()
    shelf.going.take((tells, asks, sends))
    return "done"


def _back(shelf, words):
    words.finish()
    shelf.going.back()
    return "done"


def _again(shelf, words):
    words.finish()
    shelf.going.again()
    return "done"


def _foe(shelf, words):
    words.finish()
    tells, asks = foe_day(shelf.web, shelf.terms, shelf.going.moment())
    return laid_out(deeds_in_words(shelf.names, tells, asks, ()))


def _lost(shelf, words):
    words.finish()
    paper = lost_paper(shelf.web, shelf.terms, shelf.going.moment())
    return "-" if paper is None else laid_out([str(paper[0]), ":"] + _named(shelf, paper[1]))


def _hands(shelf, words):
    words.finish()
    return laid_out([str(many) for many in shelf.going.moment()[0]])


def _owed(shelf, words):
    words.finish()
    return _listed(";", [[str(days), shelf.names[x], str(many)] for days, x, many in shelf.going.owed()])


def _log(shelf, words):
    words.finish()
    return print_run(shelf.web, shelf.names, shelf.terms, shelf.going.run())


ROWS = {
    "web": _web, "terms": _terms, "number": _number, "tree": _tree, "moats": _moats, "gain": _gain, "free": _free,
    "notice": _notice, "loan": _loan, "place": _place, "house": _house, "hunt": _hunt, "plain": _plain, "live": _live,
    "next": _next, "back": _back, "again": _again, "foe": _foe, "lost": _lost, "hands": _hands, "owed": _owed,
    "log": _log,
}
