"""A web of 40 places with all 780 ways is answered without delay."""

import random
import time
import unittest
from itertools import combinations

from treeandtrip import clusters, numbers, swaps, terms, trees, webs, worths
from tests.samples import BIG, BIG_ALIKE, Case

SECONDS = 2
LOANS = ("loans", 20, 200, 0)
TRIPS = ("trips", 20, tuple(tuple(0 if a == b else 1 + (a * b) % 200 for b in range(40)) for a in range(40)))


class Speed(Case):

    def quick(self, function, *arguments):
        begun = time.perf_counter()
        found = function(*arguments)
        self.assertLess(time.perf_counter() - begun, SECONDS, function.__name__)
        return found

    def test_webs(self):
        for web in (BIG, BIG_ALIKE):
            self.quick(webs.made_web, web)
            self.quick(webs.is_web, web)
            self.quick(webs.near, web, 39)
            self.quick(webs.days_between, web, 38, 39)
            self.quick(webs.with_way, web, 38, 39, 1)
            self.quick(webs.without_way, web, 38, 39)
            self.quick(webs.without_place, web, 0)
            self.quick(webs.renamed, web, tuple(reversed(range(40))))

    def test_trees(self):
        for web in (BIG, BIG_ALIKE):
            tree = self.quick(trees.least_tree, web)
            self.quick(trees.made_tree, web, tree)
            self.quick(trees.is_tree, web, tree)
            self.quick(trees.tree_length, web, tree)
            self.quick(trees.tree_longest, web, tree)
            self.quick(trees.road, web, tree, 39, 1)
            self.quick(trees.hung, web, 39, 1)
            self.quick(trees.cut, web, tree, 38)
            self.quick(trees.across, web, tuple(range(20)))
            self.quick(swaps.exchanges, web, tuple(way for way in web[1] if way[1] == 39), tree)

    def test_clusters(self):
        whole = tuple(range(40))
        for web in (BIG, BIG_ALIKE):
            self.quick(clusters.made_lot, web, whole)
            self.quick(clusters.parts, web, 200)
            self.quick(clusters.clusters, web)
            self.quick(clusters.is_cluster, web, whole)
            self.quick(clusters.joined_at, web, whole)
            self.quick(clusters.opens_at, web, whole)
            self.quick(clusters.children, web, whole)
            self.quick(clusters.inner, web, whole)
            self.quick(clusters.moats, web)

    def test_each_cluster_by_itself(self):
        """The four functions of [3.2], and `is_cluster`, of all clusters of a web in less than a second."""
        draw = random.Random(6)
        drawn = (40, tuple((u, v, draw.randint(1, 200)) for u, v in combinations(range(40), 2)))
        steps = (40, tuple((0, i, 1 + i * 31 % 200) for i in range(1, 40)))
        for web in (steps, drawn, BIG):
            lots = clusters.clusters(web)
            begun = time.perf_counter()
            for lot in lots:
                clusters.joined_at(web, lot)
                clusters.opens_at(web, lot)
                clusters.children(web, lot)
                clusters.inner(web, lot)
            self.assertLess(time.perf_counter() - begun, 1)
            begun = time.perf_counter()
            self.assertTrue(all(clusters.is_cluster(web, lot) for lot in lots))
            self.assertLess(time.perf_counter() - begun, 1)

    def test_numbers(self):
        for web in (BIG, BIG_ALIKE):
            tree = trees.least_tree(web)
            for given in (LOANS, TRIPS):
                self.quick(terms.made_terms, web, given)
                self.quick(terms.is_terms, web, given)
                self.quick(terms.most_asks, web, given)
                self.quick(terms.longest_loan, web, given)
                self.quick(terms.notice, web, given)
                self.quick(numbers.reserve, web, given, tree)
                self.quick(numbers.tree_needed, web, given, tree)
                self.quick(numbers.needed, web, given)
                self.quick(numbers.summands, web, given)
                self.quick(numbers.first_hands, web, given, tree, 39)

    def test_worths(self):
        offers = tuple((at, 39, 1, at) for at in range(10))
        for web in (BIG, BIG_ALIKE):
            self.quick(worths.free_ways, web)
            self.quick(worths.loan_gain, web, LOANS)
            self.quick(worths.place_gain, webs.without_place(web, 39), LOANS, ((0, 1), (38, 200)))
            for given in (LOANS, TRIPS):
                self.quick(worths.way_gain, web, given, 38, 39, 1)
                self.quick(worths.notice_gain, web, given)
                self.quick(worths.buys, web, given, offers, 0)


if __name__ == "__main__":
    unittest.main()
