"""Clusters: [3], [3.1], [3.2] and [3.3]."""

import unittest
from itertools import combinations

from treeandtrip.clusters import children, clusters, inner, is_cluster, joined_at, made_lot, moats, opens_at, parts
from treeandtrip.errors import BadLot, BadMany, NotCluster
from treeandtrip.trees import least_tree
from tests.samples import BIG, BIG_ALIKE, LOT_FAULTS, NO_NUMBERS, ODD, ONE, ORDINARY, PAIR, THREE, WEB, WEB_FAULTS
from tests.samples import Case, drawn_web, length, longest, lots_by, ring, row, star

WEBS = ORDINARY + [drawn_web(seed, 9, 200) for seed in range(200, 230)]
GREAT = [row(40), star(40), ring(40), BIG, BIG_ALIKE]
MOST_FAULTS = [(thing, BadMany, 0) for thing in NO_NUMBERS + [-1, 201, 10 ** 40]]
OF_A_CLUSTER = (joined_at, opens_at, children, inner)


def levels(web):
    """The parts for each number of days at which they change, told from the words of [3.1]."""
    n, ways = web
    days = sorted({0} | {d for _, _, d in ways})
    return [(most, lots_by(n, [way for way in ways if way[2] <= most])) for most in days]


def in_order(lots):
    return tuple(sorted(lots, key=lambda lot: (len(lot), lot)))


def all_lots(n):
    return [lot for many in range(1, n + 1) for lot in combinations(range(n), many)]


def ways_out(web, lot):
    return [d for u, v, d in web[1] if (u in lot) != (v in lot)]


def length_within(web, lot):
    """The length of a least tree of the lot's places, its places called anew."""
    ways = tuple((lot.index(u), lot.index(v), d) for u, v, d in web[1] if u in lot and v in lot)
    return length(least_tree((len(lot), ways)))


class Lots(Case):

    def test_lots(self):
        for web in ORDINARY[:20]:
            for lot in all_lots(web[0]):
                self.same(made_lot(web, lot), lot)
        self.same(made_lot(ONE, (0,)), (0,))
        self.same(made_lot(BIG, tuple(range(40))), tuple(range(40)))
        self.same(made_lot(BIG, (39,)), (39,))

    def test_faults(self):
        self.refuses_in_order(made_lot, (WEB, WEB_FAULTS), ((1, 3), LOT_FAULTS))
        self.refuses(BadLot, 0, made_lot, ONE, (1,))
        self.refuses(BadLot, 1, made_lot, ONE, (0, 1))
        self.refuses(BadLot, 40, made_lot, BIG, tuple(range(41)))

    def test_fresh(self):
        lot = (0, 1)
        self.assertIsNot(made_lot(WEB, lot), lot)

    def test_by_name(self):
        self.by_name(made_lot, web=WEB, thing=(0, 2))


class Parts(Case):

    def test_parts(self):
        for web in WEBS:
            for most in list(range(8)) + [25, 99, 100, 199, 200]:
                wanted = lots_by(web[0], [way for way in web[1] if way[2] <= most])
                self.same(parts(web, most), wanted)

    def test_edges(self):
        for web in WEBS + GREAT:
            self.same(parts(web, 0), tuple((place,) for place in range(web[0])))
            self.same(parts(web, 200), (tuple(range(web[0])),))
        self.same(parts(PAIR, 6), ((0,), (1,)))
        self.same(parts(PAIR, 7), ((0, 1),))
        self.same(parts(BIG_ALIKE, 199), tuple((place,) for place in range(40)))
        self.same(parts(ring(40), 4), tuple((place,) for place in range(40)))
        self.same(parts(BIG, 3), lots_by(40, [way for way in BIG[1] if way[2] <= 3]))

    def test_refusals(self):
        self.refuses_in_order(parts, (WEB, WEB_FAULTS), (1, MOST_FAULTS))
        self.by_name(parts, web=WEB, most=2)


class Clusters(Case):

    def test_clusters(self):
        for web in WEBS + GREAT:
            wanted = in_order({lot for _, lots in levels(web) for lot in lots})
            self.same(clusters(web), wanted)

    def test_is_cluster(self):
        for web in ORDINARY:
            found = clusters(web)
            for lot in all_lots(web[0]):
                self.assertIs(is_cluster(web, lot), lot in found)

    def test_apart_or_within(self):
        for web in WEBS + GREAT:
            for one, other in combinations([set(lot) for lot in clusters(web)], 2):
                self.assertTrue(not one & other or one < other)

    def test_judge_takes_anything(self):
        for thing, _, _ in LOT_FAULTS:
            self.assertIs(is_cluster(WEB, thing), False)
        for web, _, _ in WEB_FAULTS:
            self.assertIs(is_cluster(web, (0,)), False)
        for thing in ODD:
            self.assertIs(is_cluster(WEB, thing), thing == (0,))
            for other in ODD:
                self.assertIs(is_cluster(thing, other), False)

    def test_edges(self):
        self.same(clusters(ONE), ((0,),))
        self.same(clusters(PAIR), ((0,), (1,), (0, 1)))
        self.same(clusters(THREE), ((0,), (1,), (2,), (0, 1, 2)))
        self.assertEqual(len(clusters(BIG_ALIKE)), 41)
        rising = (40, tuple((p, p + 1, p + 1) for p in range(39)))
        self.assertEqual(len(clusters(rising)), 79)
        self.assertIs(is_cluster(rising, tuple(range(20))), True)
        self.assertIs(is_cluster(rising, tuple(range(1, 21))), False)

    def test_refusals(self):
        self.refuses_in_order(clusters, (WEB, WEB_FAULTS))
        self.by_name(clusters, web=WEB)
        self.by_name(is_cluster, web=WEB, thing=(0, 1))


class OfACluster(Case):

    def test_joined_at_and_opens_at(self):
        for web in WEBS + GREAT:
            least = {}
            for most, lots in levels(web):
                for lot in lots:
                    least.setdefault(lot, most)
            for lot in clusters(web):
                opening = min(ways_out(web, lot), default=None)
                self.same(joined_at(web, lot), least[lot])
                self.same(opens_at(web, lot), opening)
                if len(lot) < web[0]:
                    self.assertGreater(opening, least[lot])

    def test_children(self):
        for web in WEBS + GREAT:
            for lot in clusters(web):
                found = children(web, lot)
                if len(lot) == 1:
                    self.same(found, ())
                    continue
                joined = joined_at(web, lot)
                quick = [way for way in web[1] if way[2] < joined]
                self.same(found, tuple(part for part in lots_by(web[0], quick) if set(part) <= set(lot)))
                self.assertGreaterEqual(len(found), 2)
                self.assertEqual({opens_at(web, part) for part in found}, {joined})

    def test_inner(self):
        for web in WEBS + GREAT:
            for lot in clusters(web):
                self.same(inner(web, lot), length_within(web, lot))

    def test_edges(self):
        self.same([function(ONE, (0,)) for function in OF_A_CLUSTER], [0, None, (), 0])
        self.same([function(PAIR, (1,)) for function in OF_A_CLUSTER], [0, 7, (), 0])
        self.same([function(PAIR, (0, 1)) for function in OF_A_CLUSTER], [7, None, ((0,), (1,)), 7])
        self.same([function(THREE, (0, 1, 2)) for function in OF_A_CLUSTER], [1, None, ((0,), (1,), (2,)), 2])
        whole = tuple(range(40))
        singles = tuple((place,) for place in whole)
        self.same([function(BIG_ALIKE, whole) for function in OF_A_CLUSTER], [200, None, singles, 39 * 200])
        self.same([function(ring(40), whole) for function in OF_A_CLUSTER], [5, None, singles, 39 * 5])

    def test_refusals(self):
        for function in OF_A_CLUSTER:
            no_clusters = [((1, 2), NotCluster, 0), ((0, 2), NotCluster, 0), ((0, 1, 3), NotCluster, 0)]
            self.refuses_in_order(function, (WEB, WEB_FAULTS), ((0, 1), LOT_FAULTS + no_clusters))
            self.by_name(function, web=WEB, lot=(0, 1, 2))
            for lot in all_lots(4):
                if lot not in clusters(WEB):
                    self.refuses(NotCluster, 0, function, WEB, lot)
        self.refuses(NotCluster, 0, joined_at, WEB, (1, 2))
        self.refuses(BadLot, 1, joined_at, WEB, (2, 1))


class Moats(Case):

    def test_moats(self):
        for web in WEBS + GREAT:
            lots = [lot for lot in clusters(web) if len(lot) < web[0]]
            wanted = tuple((lot, opens_at(web, lot) - joined_at(web, lot)) for lot in lots)
            self.same(moats(web), wanted)

    def test_they_add_up(self):
        for web in WEBS + GREAT:
            tree = least_tree(web)
            self.assertEqual(sum(days for _, days in moats(web)), length(tree) + longest(tree))
            self.assertTrue(all(days >= 1 for _, days in moats(web)))

    def test_edges(self):
        self.same(moats(ONE), ())
        self.same(moats(PAIR), (((0,), 7), ((1,), 7)))
        self.same(moats(BIG_ALIKE), tuple(((place,), 200) for place in range(40)))

    def test_refusals(self):
        self.refuses_in_order(moats, (WEB, WEB_FAULTS))
        self.by_name(moats, web=WEB)


if __name__ == "__main__":
    unittest.main()
