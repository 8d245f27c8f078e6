"""Several least trees: [2.4]."""

import time
import unittest

from treeandtrip.errors import NotLeast, TooMany
from treeandtrip.swaps import exchanges, least_trees
from treeandtrip.trees import is_tree, least_tree
from tests.samples import BIG, BIG_ALIKE, DRAWN, LEAST, ONE, ORDINARY, OTHER, PAIR, THREE, TREE_FAULTS, WEB
from tests.samples import WEB_FAULTS, Case, alike, all_trees, drawn_web, full, least_of_all, length, longest
from tests.samples import reached, ring, row, star

SOME = [ONE, PAIR, THREE, WEB, ring(5), alike(4)] + DRAWN[:30]
LONG = [drawn_web(seed, 5, 200) for seed in range(160, 200)]


def by_days(way):
    return way[2], way[0], way[1]


def exchanged(tree, other):
    """The exchanges from a tree to another one, told straight from the words of [2.4]."""
    swaps = []
    while sorted(tree) != sorted(other):
        coming = min([leg for leg in other if leg not in tree], key=by_days)
        u, v, _ = coming
        on_the_road = [leg for leg in tree if v not in reached([way for way in tree if way != leg], u)]
        going = max([way for way in on_the_road if way not in other], key=by_days)
        tree = [leg for leg in tree if leg != going] + [coming]
        swaps.append((going, coming))
    return tuple(swaps)


class LeastTrees(Case):

    def test_example(self):
        self.same(least_trees(THREE), (((0, 1, 1), (0, 2, 1)), ((0, 1, 1), (1, 2, 1)), ((0, 2, 1), (1, 2, 1))))
        self.same(least_trees(ONE), ((),))

    def test_all_of_them_rising(self):
        for web in ORDINARY + [drawn_web(seed, 6, 2) for seed in range(100, 160)] + LONG:
            self.same(least_trees(web), tuple(least_of_all(web)))
            self.assertIn(least_tree(web), least_trees(web))

    def test_edges(self):
        self.same(least_trees(PAIR), (PAIR[1],))
        self.same(least_trees(row(7)), (row(7)[1],))
        self.same(least_trees(star(7)), (star(7)[1],))
        self.assertEqual(len(least_trees(ring(7))), 7)

    def test_seven_places_with_all_ways(self):
        begun = time.perf_counter()
        for web in (alike(7, 1), alike(7, 200)):
            found = least_trees(web)
            self.assertEqual((len(found), len(set(found))), (7 ** 5, 7 ** 5))
            self.assertEqual(found, tuple(sorted(found)))
            self.assertEqual(found[0], web[1][:6])
        mixed = full(7, lambda u, v: 1 + (u * v) % 3)
        self.same(least_trees(mixed), tuple(least_of_all(mixed)))
        self.assertLess(time.perf_counter() - begun, 20)

    def test_refusals(self):
        self.refuses_in_order(least_trees, (WEB, WEB_FAULTS))
        for n in (8, 9, 40):
            self.refuses(TooMany, n, least_trees, row(n))
            self.refuses(TooMany, n, least_trees, alike(n))
        self.by_name(least_trees, web=WEB)


class Exchanges(Case):

    def test_example(self):
        found = exchanges(THREE, ((0, 1, 1), (0, 2, 1)), ((0, 2, 1), (1, 2, 1)))
        self.same(found, (((0, 1, 1), (1, 2, 1)),))
        self.same(exchanges(WEB, OTHER, LEAST), (((0, 2, 3), (1, 2, 2)),))

    def test_from_any_tree_to_each_least_tree(self):
        for web in SOME:
            for other in least_of_all(web)[:6]:
                for tree in all_trees(web)[:60]:
                    self.check(web, tree, other)

    def test_great_webs(self):
        for web in (BIG, BIG_ALIKE):
            last = web[1][-39:]
            tree = tuple(way for way in web[1] if way[1] == 39)
            self.check(web, tree, least_tree(web))
            self.assertFalse(is_tree(web, last))
        self.check(row(40), row(40)[1], row(40)[1])
        self.check(ring(40), ring(40)[1][1:], ring(40)[1][:39])

    def check(self, web, tree, other):
        found = exchanges(web, tree, other)
        self.same(found, exchanged(list(tree), other))
        for going, coming in found:
            after = tuple(sorted([leg for leg in tree if leg != going] + [coming]))
            self.assertTrue(is_tree(web, after))
            self.assertLessEqual(length(after), length(tree))
            self.assertLessEqual(longest(after), longest(tree))
            tree = after
        self.same(tree, other)

    def test_nothing_to_exchange(self):
        self.same(exchanges(ONE, (), ()), ())
        self.same(exchanges(WEB, LEAST, LEAST), ())
        self.refuses(NotLeast, 0, exchanges, WEB, OTHER, OTHER)

    def test_refusals(self):
        self.refuses_in_order(
            exchanges, (WEB, WEB_FAULTS), (OTHER, TREE_FAULTS), (LEAST, TREE_FAULTS + [(OTHER, NotLeast, 0)]))
        self.refuses(NotLeast, 0, exchanges, WEB, LEAST, OTHER)
        self.by_name(exchanges, web=WEB, tree=OTHER, other=LEAST)


if __name__ == "__main__":
    unittest.main()
