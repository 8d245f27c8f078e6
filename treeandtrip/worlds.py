"""A world: a good web and good terms for it, with what days and their moments are reckoned from."""

from treeandtrip.terms import are_loans, checked_terms, three_numbers
from treeandtrip.webs import made_web


class World:
    """A good web and good terms, taken apart once, so that many days can be done without looking at them again."""

    def __init__(self, web, terms):
        self.n, self.ways = web
        self.k, self.longest, self.told = three_numbers(terms)
        self.table = None if are_loans(terms) else terms[2]
        self.days_of = {}
        for u, v, days in self.ways:
            self.days_of[u, v] = days
            self.days_of[v, u] = days


def world_of(web, terms):
    """The world of a web and terms, both of which are checked."""
    good = made_web(web)
    return World(good, checked_terms(good[0], terms))
