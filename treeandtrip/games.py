"""Small games: whether a house can go on for ever, whatever an asker does who sees everything."""

from treeandtrip.basics import is_within
from treeandtrip.errors import BadMany, TooMany
from treeandtrip.numbers import needed
from treeandtrip.terms import are_loans, made_terms
from treeandtrip.trees import days_of_longest
from treeandtrip.webs import made_web

SMALL_PLACES = 2
SMALL_DAYS = 2
SMALL_NEEDED = 4
MOST_KEPT = 5


def small(web, terms):
    """Whether the web and the terms are small."""
    n, ways = made_web(web)
    good = made_terms(web, terms)
    if not are_loans(good) or good[1] > 1 or n > SMALL_PLACES:
        return False
    return days_of_longest(ways) <= SMALL_DAYS and needed(web, good) <= SMALL_NEEDED


def keepable(web, terms, crates):
    """Whether a house with exactly so many crates can go on for ever in the game of small terms."""
    least = needed(web, terms)
    if not is_within(crates, 0, MOST_KEPT):
        raise BadMany(0)
    if not small(web, terms):
        raise TooMany(web[0])
    # The game need not be played: its rules bind the asker, but do not weaken it.
    return crates >= least
