"""Terms: what may be asked of the house, as loans or as trips."""

from treeandtrip.basics import MOST_DAYS, fresh, is_numbers, is_within
from treeandtrip.errors import BadTerms, Refused
from treeandtrip.webs import made_web

MOST_ASKS = 20


def made_terms(web, thing):
    """The terms, if the value is terms for this web."""
    n, _ = made_web(web)
    return checked_terms(n, thing)


def checked_terms(n, thing):
    """The terms, if the value is terms for a web with n places."""
    if _begins(thing, "loans", 4):
        _check_loans(thing)
    elif _begins(thing, "trips", 3):
        _check_trips(n, thing)
    else:
        raise BadTerms(-1)
    return fresh(thing)


def _begins(thing, word, many):
    return isinstance(thing, tuple) and len(thing) == many and thing[0] == word


def _check_loans(thing):
    if not is_within(thing[1], 1, MOST_ASKS):
        raise BadTerms(1)
    if not is_within(thing[2], 1, MOST_DAYS):
        raise BadTerms(2)
    if not is_within(thing[3], 0, thing[2]):
        raise BadTerms(3)


def _check_trips(n, thing):
    if n == 1:
        raise BadTerms(0)
    if not is_within(thing[1], 1, MOST_ASKS):
        raise BadTerms(1)
    if not _is_table(n, thing[2]):
        raise BadTerms(2)


def _is_table(n, thing):
    if not isinstance(thing, tuple) or len(thing) != n:
        return False
    return all([_is_row(n, place, row) for place, row in enumerate(thing)])


def _is_row(n, place, thing):
    """Whether a value is the row of this place in a table."""
    if not is_numbers(thing, n) or thing[place] != 0:
        return False
    return all([1 <= days <= MOST_DAYS for days in thing[:place] + thing[place + 1:]])


def is_terms(web, thing):
    """Whether a value is terms for this web."""
    try:
        made_terms(web, thing)
    except Refused:
        return False
    return True


def are_loans(terms):
    """Whether good terms are loans, not trips."""
    return terms[0] == "loans"


def three_numbers(terms):
    """k, L and j of good terms."""
    if are_loans(terms):
        return terms[1:]
    longest = max([max(row) for row in terms[2]])
    return terms[1], longest, longest


def most_asks(web, terms):
    """k: how many crates can be asked for on a day."""
    return three_numbers(made_terms(web, terms))[0]


def longest_loan(web, terms):
    """L: within how many days each crate is home."""
    return three_numbers(made_terms(web, terms))[1]


def notice(web, terms):
    """j: how many days ahead the home of a crate is told."""
    return three_numbers(made_terms(web, terms))[2]
