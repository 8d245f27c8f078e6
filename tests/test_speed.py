"""A web of 40 places with all 780 ways is answered without delay."""

import time
import unittest

from treeandtrip import swaps, trees, webs
from tests.samples import BIG, BIG_ALIKE, Case

SECONDS = 2


class Speed(Case):

    def quick(self, function, *arguments):
        begun = time.perf_counter()
        found = function(*arguments)
        self.assertLess(time.perf_counter() - begun, SECONDS, function.__name__)
        return found

    def test_webs(self):
        for web in (BIG, BIG_ALIKE):
            self.quick(webs.made_web, web)
            self.quick(webs.is_web, web)
            self.quick(webs.near, web, 39)
            self.quick(webs.days_between, web, 38, 39)
            self.quick(webs.with_way, web, 38, 39, 1)
            self.quick(webs.without_way, web, 38, 39)
            self.quick(webs.without_place, web, 0)
            self.quick(webs.renamed, web, tuple(reversed(range(40))))

    def test_trees(self):
        for web in (BIG, BIG_ALIKE):
            tree = self.quick(trees.least_tree, web)
            self.quick(trees.made_tree, web, tree)
            self.quick(trees.is_tree, web, tree)
            self.quick(trees.tree_length, web, tree)
            self.quick(trees.tree_longest, web, tree)
            self.quick(trees.road, web, tree, 39, 1)
            self.quick(trees.hung, web, 39, 1)
            self.quick(trees.cut, web, tree, 38)
            self.quick(trees.across, web, tuple(range(20)))
            self.quick(swaps.exchanges, web, tuple(way for way in web[1] if way[1] == 39), tree)


if __name__ == "__main__":
    unittest.main()
