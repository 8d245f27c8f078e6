"""Numbers: [5]."""

import unittest

from treeandtrip.errors import BadPlace
from treeandtrip.numbers import first_hands, needed, reserve, summands, tree_needed
from treeandtrip.trees import least_tree, road
from tests.samples import BIG, BIG_ALIKE, DRAWN, FORK, LEAST, LOANS, NO_PLACES, ONE, ORDINARY, OTHER, PAIR, TERMS_FAULTS
from tests.samples import THREE, TREE_FAULTS, TRIPS, WEB, WEB_FAULTS, Case, all_trees, length, longest, ring, row, star

LOAN_TERMS = [("loans", 1, 1, 0), ("loans", 1, 3, 1), ("loans", 20, 200, 0), ("loans", 3, 200, 200), ("loans", 2, 9, 4)]
PLACE_FAULTS = [(thing, BadPlace, 0) for thing in NO_PLACES]
SOME = [ONE, PAIR, THREE, FORK, WEB] + DRAWN[:20]


def numbers_of(terms):
    """k, L and j of terms."""
    if terms[0] == "loans":
        return terms[1:]
    greatest = max(max(line) for line in terms[2])
    return terms[1], greatest, greatest


def terms_for(web):
    """Loans, and trips where the web has two places."""
    n = web[0]
    rows = tuple(tuple(0 if a == b else 1 + (a * 5 + b * 3) % 4 for b in range(n)) for a in range(n))
    return LOAN_TERMS + ([("trips", 4, rows)] if n > 1 else [])


def reckoned(terms, legs):
    k, days, told = numbers_of(terms)
    return k * (length(legs) + days + max(0, longest(legs) - told))


class Numbers(Case):

    def test_of_trees(self):
        for web in SOME:
            for terms in terms_for(web):
                k, days, told = numbers_of(terms)
                for tree in all_trees(web)[:25]:
                    self.same(reserve(web, terms, tree), days + max(0, longest(tree) - told))
                    self.same(tree_needed(web, terms, tree), reckoned(terms, tree))

    def test_of_webs(self):
        for web in ORDINARY + [row(40), star(40), ring(40), BIG, BIG_ALIKE]:
            tree = least_tree(web)
            for terms in terms_for(web):
                k, days, told = numbers_of(terms)
                self.same(needed(web, terms), reckoned(terms, tree))
                self.same(summands(web, terms), (k, length(tree), longest(tree), days, told))

    def test_needed_is_the_least_of_all_trees(self):
        for web in SOME:
            for terms in terms_for(web):
                self.assertEqual(needed(web, terms), min(tree_needed(web, terms, tree) for tree in all_trees(web)))

    def test_edges(self):
        self.same(needed(ONE, ("loans", 1, 1, 0)), 1)
        self.same(needed(ONE, ("loans", 20, 200, 200)), 4000)
        self.same(summands(ONE, ("loans", 20, 200, 0)), (20, 0, 0, 200, 0))
        self.same(needed(BIG_ALIKE, ("loans", 20, 200, 0)), 20 * (39 * 200 + 200 + 200))
        self.same(needed(BIG_ALIKE, ("loans", 20, 200, 199)), 20 * (39 * 200 + 200 + 1))
        self.same(needed(BIG_ALIKE, ("loans", 20, 200, 200)), 20 * (39 * 200 + 200))
        self.same(needed(PAIR, ("trips", 1, ((0, 8), (3, 0)))), 15)
        self.same(needed(PAIR, ("trips", 1, ((0, 3), (3, 0)))), 14)

    def test_refusals(self):
        for function in (reserve, tree_needed):
            self.refuses_in_order(function, (WEB, WEB_FAULTS), (LOANS, TERMS_FAULTS), (LEAST, TREE_FAULTS))
            self.by_name(function, web=WEB, terms=LOANS, tree=OTHER)
        for function in (needed, summands):
            self.refuses_in_order(function, (WEB, WEB_FAULTS), (LOANS, TERMS_FAULTS))
            self.by_name(function, web=FORK, terms=TRIPS)


class FirstHands(Case):

    def test_hands(self):
        for web in SOME:
            for tree in all_trees(web)[:8]:
                for terms in terms_for(web):
                    for root in range(web[0]):
                        self.check(web, terms, tree, root)
        for web in (row(40), star(40)):
            for root in (0, 17, 39):
                self.check(web, LOANS, web[1], root)

    def check(self, web, terms, tree, root):
        days = {(u, v): d for u, v, d in tree}
        wanted = []
        for place in range(web[0]):
            steps = road(web, tree, place, root)[:2]
            first = reserve(web, terms, tree) if place == root else days[min(steps), max(steps)]
            wanted.append(numbers_of(terms)[0] * first)
        found = first_hands(web, terms, tree, root)
        self.same(found, tuple(wanted))
        self.assertEqual(sum(found), tree_needed(web, terms, tree))

    def test_edges(self):
        self.same(first_hands(ONE, ("loans", 20, 200, 0), (), 0), (4000,))
        self.same(first_hands(PAIR, ("loans", 2, 3, 1), PAIR[1], 1), (14, 18))
        self.same(first_hands(FORK, TRIPS, FORK[1], 0), (10, 4, 6))

    def test_refusals(self):
        self.refuses_in_order(
            first_hands, (WEB, WEB_FAULTS), (LOANS, TERMS_FAULTS), (LEAST, TREE_FAULTS), (3, PLACE_FAULTS))
        self.refuses(BadPlace, 0, first_hands, ONE, LOANS, (), 1)
        self.by_name(first_hands, web=WEB, terms=LOANS, tree=OTHER, root=2)


if __name__ == "__main__":
    unittest.main()
