"""Worths: what a change of the web or of the terms saves or costs in crates."""

from treeandtrip.basics import MOST_CRATES, MOST_DAYS, is_numbers, is_place, is_within, labels_of
from treeandtrip.errors import BadMany, BadOffers, BadTerms
from treeandtrip.numbers import crates_by, needed, summands, summands_by
from treeandtrip.terms import are_loans, made_terms
from treeandtrip.trees import least_legs
from treeandtrip.webs import made_web, with_place, with_way

MOST_OFFERS = 10
MOST_PRICE = 1000


def way_gain(web, terms, u, v, d):
    """How many crates a way of d days between u and v saves."""
    before = needed(web, terms)
    return before - needed(with_way(web, u, v, d), terms)


def free_ways(web):
    """The rising tuple of the ways that can each be closed without a loss."""
    n, ways = made_web(web)
    return tuple([way for way in ways if _is_free(n, ways, way)])


def _is_free(n, ways, way):
    u, v, d = way
    labels = labels_of(n, [other for other in ways if other[2] <= d and other != way])
    return labels[u] == labels[v]


def notice_gain(web, terms):
    """How many crates one more day of notice saves."""
    good = made_terms(web, terms)
    if not are_loans(good) or good[3] == good[2]:
        return 0
    return needed(web, good) - needed(web, good[:3] + (good[3] + 1,))


def _check_loans(terms):
    if not are_loans(terms):
        raise BadTerms(0)


def loan_gain(web, terms):
    """How many crates it costs if loans are out for one more day."""
    _check_loans(made_terms(web, terms))
    k, length, longest, longest_out, told = summands(web, terms)
    # Terms with 201 days would be refused, so the summands are changed, not the terms.
    longer = crates_by((k, length, longest, longest_out + 1, told))
    return longer - crates_by((k, length, longest, longest_out, told))


def place_gain(web, terms, row):
    """How many crates one more place costs that is joined by this row."""
    _check_loans(made_terms(web, terms))
    return needed(with_place(web, row), terms) - needed(web, terms)


def buys(web, terms, offers, crates):
    """The cheapest choice of offers with which so many crates are enough, None if there is none."""
    n, ways = made_web(web)
    good = made_terms(web, terms)
    _check_offers(n, offers)
    if not is_within(crates, 0, MOST_CRATES):
        raise BadMany(0)
    # A way that is no leg of a least tree is none with more ways either, so only the legs
    # are looked at again. Of two ways between the same places the longer one is never taken.
    legs = least_legs(n, ways)
    for choice in _choices(offers):
        bought = [offers[index][:3] for index in choice]
        if crates_by(summands_by(good, least_legs(n, legs + bought))) <= crates:
            return choice
    return None


def _check_offers(n, offers):
    if not isinstance(offers, tuple) or len(offers) > MOST_OFFERS:
        raise BadOffers(-1)
    for index, offer in enumerate(offers):
        if not _is_offer(n, offer):
            raise BadOffers(index)


def _is_offer(n, thing):
    if not is_numbers(thing, 4):
        return False
    u, v, d, price = thing
    if not is_place(n, u) or not is_place(n, v) or u >= v:
        return False
    return 1 <= d <= MOST_DAYS and 0 <= price <= MOST_PRICE


def _choices(offers):
    """All choices of offers, as they are preferred: the cheapest, of these the fewest, of these the least."""
    choices = [()]
    for index in range(len(offers)):
        choices = choices + [choice + (index,) for choice in choices]
    ranked = [(sum([offers[at][3] for at in choice]), len(choice), choice) for choice in choices]
    return [rank[2] for rank in sorted(ranked)]
