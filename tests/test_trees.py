"""Trees: [2], [2.1], [2.2] and [2.3]."""

import unittest
from itertools import combinations

from treeandtrip.errors import BadMany, BadPlace, BadTree, Parted
from treeandtrip.trees import across, cut, hung, is_tree, least_tree, made_tree, road, tree_length, tree_longest
from tests.samples import BIG, BIG_ALIKE, DRAWN, LEAST, LOT_FAULTS, NO_NUMBERS, NO_PLACES, ODD, ONE, ORDINARY, OTHER
from tests.samples import PAIR, THREE, TREE_FAULTS, WEB, WEB_FAULTS, Case, all_trees, least_of_all, length, longest
from tests.samples import reached, ring, row, star

PLACE_FAULTS = [(thing, BadPlace, 0) for thing in NO_PLACES]
SECOND_FAULTS = [(thing, BadPlace, 1) for thing in NO_PLACES]
INDEX_FAULTS = [(thing, BadMany, 0) for thing in NO_NUMBERS + [-1, 3, 4, 10 ** 40]]
GREAT = [row(40), star(40), ring(40), BIG, BIG_ALIKE]
SOME = [ONE, PAIR, THREE, WEB] + DRAWN[:25]


def without(legs, leg):
    return tuple(other for other in legs if other != leg)


def slowest_of_the_quickest(ways, u, v):
    """The least days so that some road from u to v has no longer way, 0 for u = v."""
    if u == v:
        return 0
    return min(d for _, _, d in ways if v in reached([way for way in ways if way[2] <= d], u))


class MadeTree(Case):

    def test_trees(self):
        for web in SOME:
            for tree in all_trees(web):
                self.same(made_tree(web, tree), tree)
                self.assertIs(is_tree(web, tree), True)
        self.same(made_tree(ONE, ()), ())
        self.same(made_tree(row(40), row(40)[1]), row(40)[1])

    def test_faults(self):
        for thing, error, what in TREE_FAULTS:
            self.refuses(error, what, made_tree, WEB, thing)
            self.assertIs(is_tree(WEB, thing), False)
        self.refuses(BadTree, -1, made_tree, ONE, ((0, 0, 1),))
        self.refuses(BadTree, -1, made_tree, ONE, [])
        self.refuses(BadTree, -1, made_tree, PAIR, ())
        self.refuses(BadTree, 0, made_tree, PAIR, ((0, 1, 6),))

    def test_all_choices_of_ways(self):
        for web in SOME:
            n, ways = web
            trees = all_trees(web)
            for legs in combinations(ways, n - 1):
                self.assertIs(is_tree(web, legs), legs in trees)
                if legs not in trees:
                    apart = [place for place in range(n) if place not in reached(legs, 0)]
                    self.refuses(Parted, apart[0], made_tree, web, legs)

    def test_order(self):
        self.refuses_in_order(made_tree, (WEB, WEB_FAULTS), (LEAST, TREE_FAULTS))

    def test_judge_takes_anything(self):
        for thing in ODD:
            self.assertIs(is_tree(WEB, thing), False)
            self.assertIs(is_tree(thing, LEAST), False)
            self.assertIs(is_tree(ONE, thing), thing == ())
            for other in ODD:
                self.assertIs(is_tree(thing, other), False)
        for web, _, _ in WEB_FAULTS:
            self.assertIs(is_tree(web, LEAST), False)
            self.assertIs(is_tree(web, ()), False)

    def test_fresh(self):
        self.assertIsNot(made_tree(WEB, LEAST), LEAST)

    def test_by_name(self):
        self.by_name(made_tree, web=WEB, thing=OTHER)
        self.by_name(is_tree, web=WEB, thing=OTHER)


class Lengths(Case):

    def test_example(self):
        self.same((tree_length(WEB, LEAST), tree_longest(WEB, LEAST)), (7, 4))
        self.same((tree_length(WEB, OTHER), tree_longest(WEB, OTHER)), (8, 4))

    def test_lengths(self):
        for web in SOME:
            for tree in all_trees(web):
                self.same(tree_length(web, tree), length(tree))
                self.same(tree_longest(web, tree), longest(tree))
        self.same((tree_length(ONE, ()), tree_longest(ONE, ())), (0, 0))
        tree = BIG_ALIKE[1][:39]
        self.same((tree_length(BIG_ALIKE, tree), tree_longest(BIG_ALIKE, tree)), (39 * 200, 200))

    def test_refusals(self):
        for function in (tree_length, tree_longest):
            self.refuses_in_order(function, (WEB, WEB_FAULTS), (LEAST, TREE_FAULTS))
            self.by_name(function, web=WEB, tree=OTHER)


class Road(Case):

    def test_example(self):
        self.same(road(WEB, LEAST, 3, 0), (3, 2, 1, 0))

    def test_roads(self):
        for web in SOME:
            for tree in all_trees(web)[:40]:
                self.check_roads(web, tree)
        self.check_roads(row(40), row(40)[1])
        self.check_roads(star(40), star(40)[1])

    def check_roads(self, web, tree):
        pairs = {(u, v) for u, v, _ in tree} | {(v, u) for u, v, _ in tree}
        for u in range(web[0]):
            for v in range(web[0]):
                found = road(web, tree, u, v)
                self.assertEqual((type(found), found[0], found[-1]), (tuple, u, v))
                self.assertEqual(len(set(found)), len(found))
                self.assertTrue(all(step in pairs for step in zip(found, found[1:])))
                self.assertTrue(all(type(place) is int for place in found))

    def test_edges(self):
        self.same(road(ONE, (), 0, 0), (0,))
        self.same(road(WEB, LEAST, 2, 2), (2,))
        self.same(road(row(40), row(40)[1], 39, 0), tuple(reversed(range(40))))
        self.same(road(star(40), star(40)[1], 39, 17), (39, 0, 17))

    def test_refusals(self):
        self.refuses_in_order(
            road, (WEB, WEB_FAULTS), (LEAST, TREE_FAULTS), (0, PLACE_FAULTS), (3, SECOND_FAULTS))
        self.refuses(BadPlace, 0, road, ONE, (), 1, 1)
        self.by_name(road, web=WEB, tree=OTHER, u=3, v=1)


class LeastTree(Case):

    def test_example(self):
        self.same(least_tree(WEB), LEAST)

    def test_least_length_and_least_longest_leg(self):
        for web in ORDINARY:
            tree = least_tree(web)
            trees = all_trees(web)
            self.assertIn(tree, trees)
            self.same(tree, made_tree(web, tree))
            self.assertEqual(length(tree), min(length(legs) for legs in trees))
            self.assertEqual(longest(tree), min(longest(legs) for legs in trees))

    def test_the_first_ways_are_taken(self):
        for web in ORDINARY + GREAT:
            taken = []
            for u, v, d in sorted(web[1], key=lambda way: (way[2],) + way[:2]):
                if v not in reached(taken, u):
                    taken.append((u, v, d))
            self.same(least_tree(web), tuple(sorted(taken)))

    def test_ways_alike(self):
        self.same(least_tree(THREE), ((0, 1, 1), (0, 2, 1)))
        self.same(least_tree(BIG_ALIKE), BIG_ALIKE[1][:39])
        self.same(least_tree(ring(4)), ((0, 1, 5), (0, 3, 5), (1, 2, 5)))

    def test_edges(self):
        self.same(least_tree(ONE), ())
        self.same(least_tree(PAIR), PAIR[1])
        self.same(least_tree(row(40)), row(40)[1])
        self.same(least_tree(star(40)), star(40)[1])

    def test_refusals(self):
        self.refuses_in_order(least_tree, (WEB, WEB_FAULTS))
        self.by_name(least_tree, web=WEB)


class Hung(Case):

    def test_example(self):
        self.same((hung(WEB, 0, 2), hung(WEB, 3, 0)), (2, 4))

    def test_no_road_is_quicker(self):
        for web in ORDINARY:
            for u in range(web[0]):
                for v in range(web[0]):
                    self.same(hung(web, u, v), slowest_of_the_quickest(web[1], u, v))

    def test_in_all_least_trees(self):
        for web in SOME:
            for tree in least_of_all(web):
                for u, v in combinations(range(web[0]), 2):
                    steps = [tuple(sorted(step)) for step in zip(road(web, tree, u, v), road(web, tree, u, v)[1:])]
                    self.assertEqual(hung(web, u, v), max(d for p, q, d in tree if (p, q) in steps))

    def test_edges(self):
        self.same(hung(ONE, 0, 0), 0)
        self.same(hung(PAIR, 1, 1), 0)
        self.same(hung(PAIR, 1, 0), 7)
        self.same(hung(BIG_ALIKE, 39, 3), 200)
        self.same(hung(row(40), 0, 39), max(d for _, _, d in row(40)[1]))
        self.same(hung(BIG, 7, 31), slowest_of_the_quickest(BIG[1], 7, 31))

    def test_refusals(self):
        self.refuses_in_order(hung, (WEB, WEB_FAULTS), (0, PLACE_FAULTS), (3, SECOND_FAULTS))
        self.by_name(hung, web=WEB, u=0, v=3)


class Cuts(Case):

    def test_example(self):
        self.same(cut(WEB, LEAST, 1), (2, 3))
        self.same(across(WEB, (2, 3)), ((0, 2, 3), (1, 2, 2)))

    def test_cuts(self):
        for web in SOME + [row(40), star(40)]:
            for tree in [least_tree(web)] + (all_trees(web)[:20] if web[0] < 9 else []):
                for index, leg in enumerate(tree):
                    near_side = reached(without(tree, leg), 0)
                    wanted = tuple(place for place in range(web[0]) if place not in near_side)
                    self.same(cut(web, tree, index), wanted)

    def test_across(self):
        for web in SOME:
            for many in range(1, web[0] + 1):
                for lot in combinations(range(web[0]), many):
                    wanted = tuple(way for way in web[1] if len({way[0], way[1]} & set(lot)) == 1)
                    self.same(across(web, lot), wanted)
        self.same(across(ONE, (0,)), ())
        self.same(across(BIG, tuple(range(40))), ())
        self.same(across(BIG, (0,)), BIG[1][:39])
        self.same(len(across(BIG, tuple(range(0, 40, 2)))), 400)

    def test_least_trees_by_their_cuts(self):
        for web in SOME:
            least = least_of_all(web)
            for tree in all_trees(web):
                sides = [cut(web, tree, index) for index in range(len(tree))]
                best = all(min(d for _, _, d in across(web, side)) == leg[2] for side, leg in zip(sides, tree))
                self.assertEqual(best, tree in least)

    def test_refusals(self):
        self.refuses_in_order(cut, (WEB, WEB_FAULTS), (LEAST, TREE_FAULTS), (2, INDEX_FAULTS))
        self.refuses_in_order(across, (WEB, WEB_FAULTS), ((0, 3), LOT_FAULTS))
        for index in NO_NUMBERS + [-1, 0, 1]:
            self.refuses(BadMany, 0, cut, ONE, (), index)
        self.refuses(BadMany, 0, cut, PAIR, PAIR[1], 1)
        self.refuses(BadMany, 0, cut, PAIR, PAIR[1], False)
        self.same(cut(PAIR, PAIR[1], 0), (1,))

    def test_by_name(self):
        self.by_name(cut, web=WEB, tree=LEAST, index=2)
        self.by_name(across, web=WEB, lot=(0, 1))


if __name__ == "__main__":
    unittest.main()
