"""Webs: [1], [1.1] and [1.2]."""

import copy
import unittest
from itertools import permutations

from treeandtrip.errors import BadDays, BadOrder, BadPlace, BadRow, LastPlace, NoWay, Parted, TooMany
from treeandtrip.webs import days_between, is_web, made_web, near, renamed
from treeandtrip.webs import with_place, with_way, without_place, without_way
from tests.samples import BIG, BIG_ALIKE, DRAWN, FORK, NO_NUMBERS, NO_PLACES, ODD, ONE, ORDINARY, PAIR, THREE
from tests.samples import WEB, WEB_FAULTS, Case, alike, reached, ring, row, star

PLACE_FAULTS = [(thing, BadPlace, 0) for thing in NO_PLACES]
SECOND_FAULTS = [(thing, BadPlace, 1) for thing in NO_PLACES]
DAYS_FAULTS = [(thing, BadDays, 0) for thing in NO_NUMBERS + [0, -1, 201, 10 ** 40]]
GREAT = [row(40), star(40), ring(40), BIG, BIG_ALIKE]


def pairs(web):
    return [(u, v) for u in range(web[0]) for v in range(web[0])]


def hold(n, ways):
    """Whether ways, in any order, hold a web together."""
    return len(reached(ways, 0)) == n


class MadeWeb(Case):

    def test_webs(self):
        for web in ORDINARY + GREAT:
            self.same(made_web(web), web)
            self.assertIs(is_web(web), True)

    def test_bounds(self):
        self.same(made_web((1, ())), (1, ()))
        self.same(made_web((2, ((0, 1, 1),))), (2, ((0, 1, 1),)))
        self.same(made_web((2, ((0, 1, 200),))), (2, ((0, 1, 200),)))
        self.same(made_web(row(40)), row(40))

    def test_faults(self):
        for thing, error, what in WEB_FAULTS:
            self.refuses(error, what, made_web, thing)
            self.assertIs(is_web(thing), False)

    def test_parted_tells_the_least_place(self):
        for web in DRAWN:
            n, ways = web
            for way in ways:
                kept = tuple(other for other in ways if other != way)
                apart = [place for place in range(n) if place not in reached(kept, 0)]
                if apart:
                    self.refuses(Parted, apart[0], made_web, (n, kept))
                else:
                    self.same(made_web((n, kept)), (n, kept))

    def test_judge_takes_anything(self):
        for thing in ODD + [(first, second) for first in ODD for second in ODD if (first, second) != (1, ())]:
            self.assertIs(is_web(thing), False)

    def test_nothing_is_changed(self):
        for thing, _, _ in WEB_FAULTS:
            kept = copy.deepcopy(thing)
            is_web(thing)
            self.same(thing, kept)

    def test_fresh(self):
        found = made_web(WEB)
        self.assertIsNot(found, WEB)
        self.assertIsNot(found[1], WEB[1])

    def test_by_name(self):
        self.by_name(made_web, thing=WEB)
        self.by_name(is_web, thing=WEB)


class Parts(Case):

    def test_example(self):
        self.same(near(WEB, 2), ((0, 3), (1, 2), (3, 4)))
        self.same((days_between(WEB, 2, 0), days_between(WEB, 0, 3)), (3, None))

    def test_near(self):
        for web in ORDINARY + GREAT:
            for place in range(web[0]):
                ends = [(v if u == place else u, d) for u, v, d in web[1] if place in (u, v)]
                self.same(near(web, place), tuple(sorted(ends)))
        self.same(near(ONE, 0), ())

    def test_days_between(self):
        for web in ORDINARY + [row(40), star(40)]:
            days = {(u, v): d for u, v, d in web[1]}
            for u, v in pairs(web):
                wanted = days.get((min(u, v), max(u, v)))
                self.same(days_between(web, u, v), wanted)
        self.same((days_between(BIG, 38, 39), days_between(BIG, 39, 0)), (BIG[1][-1][2], BIG[1][38][2]))
        self.assertIsNone(days_between(ONE, 0, 0))

    def test_refusals(self):
        self.refuses_in_order(near, (WEB, WEB_FAULTS), (3, PLACE_FAULTS))
        self.refuses_in_order(days_between, (WEB, WEB_FAULTS), (0, PLACE_FAULTS), (3, SECOND_FAULTS))
        self.refuses(BadPlace, 0, near, ONE, 1)
        self.refuses(BadPlace, 1, days_between, ONE, 0, 1)

    def test_by_name(self):
        self.by_name(near, web=WEB, place=2)
        self.by_name(days_between, web=WEB, u=0, v=1)


class WithWay(Case):

    def test_example(self):
        self.same(with_way(WEB, 3, 0, 5), (4, ((0, 1, 1), (0, 2, 3), (0, 3, 5), (1, 2, 2), (2, 3, 4))))

    def test_puts_in_or_changes(self):
        for web in ORDINARY + [row(40), star(40)]:
            for u, v in pairs(web)[:60]:
                if u == v:
                    self.refuses(BadPlace, 1, with_way, web, u, v, 3)
                    continue
                low, high = min(u, v), max(u, v)
                kept = [way for way in web[1] if way[:2] != (low, high)]
                wanted = web[0], tuple(sorted(kept + [(low, high, 3)]))
                self.same(with_way(web, u, v, 3), wanted)

    def test_the_same_again(self):
        for u, v, d in BIG[1][::50]:
            self.same(with_way(BIG, u, v, d), BIG)
            self.same(with_way(BIG, v, u, d), BIG)

    def test_bounds_of_days(self):
        self.same(with_way(PAIR, 1, 0, 1), (2, ((0, 1, 1),)))
        self.same(with_way(PAIR, 0, 1, 200), (2, ((0, 1, 200),)))

    def test_refusals(self):
        self.refuses_in_order(
            with_way, (WEB, WEB_FAULTS), (0, PLACE_FAULTS), (1, SECOND_FAULTS + [(0, BadPlace, 1)]), (5, DAYS_FAULTS))
        self.refuses(BadPlace, 1, with_way, ONE, 0, 0, 1)
        self.refuses(BadPlace, 1, with_way, WEB, 2, 2, 0)
        self.refuses(BadPlace, 1, with_way, WEB, 1, True, 1)

    def test_by_name(self):
        self.by_name(with_way, web=WEB, u=0, v=3, d=9)


class WithoutWay(Case):

    def test_example(self):
        self.same(without_way(WEB, 2, 0), (4, ((0, 1, 1), (1, 2, 2), (2, 3, 4))))
        self.refuses(Parted, 3, without_way, WEB, 2, 3)

    def test_lacks_the_way_or_is_refused(self):
        for web in ORDINARY + [row(40), star(40), ring(40)]:
            n, ways = web
            for u, v in pairs(web)[:80]:
                low, high = min(u, v), max(u, v)
                kept = tuple(way for way in ways if way[:2] != (low, high))
                if kept == ways:
                    self.refuses(NoWay, 0, without_way, web, u, v)
                elif hold(n, kept):
                    self.same(without_way(web, u, v), (n, kept))
                else:
                    apart = [place for place in range(n) if place not in reached(kept, 0)]
                    self.refuses(Parted, apart[0], without_way, web, u, v)

    def test_all_ways(self):
        self.same(without_way(BIG, 39, 38), (40, BIG[1][:-1]))
        self.same(without_way(BIG, 0, 1), (40, BIG[1][1:]))

    def test_refusals(self):
        self.refuses_in_order(
            without_way, (WEB, WEB_FAULTS), (0, PLACE_FAULTS), (1, SECOND_FAULTS + [(0, NoWay, 0), (3, NoWay, 0)]))
        self.refuses(NoWay, 0, without_way, ONE, 0, 0)
        self.refuses(Parted, 1, without_way, PAIR, 1, 0)
        self.refuses(BadPlace, 0, without_way, WEB, 4, 4)
        self.refuses(BadPlace, 1, without_way, WEB, 2, 4)

    def test_by_name(self):
        self.by_name(without_way, web=WEB, u=0, v=1)


ROW_FAULTS = [(thing, BadRow, 0) for thing in [
    None, True, 0, "row", (), [], [(0, 1)], (0, 1), ((0, 1, 1),), ((0,),), ([0, 1],), ((4, 1),), ((-1, 1),),
    ((True, 1),), ((False, 1),), ((0, True),), ((0, 0),), ((0, 201),), ((0, -1),), ((0, None),), (("0", 1),),
    ((0, "1"),), ((0, 1), (0, 1)), ((0, 1), (0, 2)), ((0, 2), (0, 1)), ((1, 1), (0, 1)), ((0, 1), (1, 1), (1, 2)),
    ((0, 1), (2, 5), (1, 5)), ((0, 1), 1), ((0, 1), None), ((0, 1), (1, 201)), ((10 ** 40, 1),), ((0, 10 ** 40),),
    ((0, 1), ()), ((), (0, 1))]]


class WithPlace(Case):

    def test_example(self):
        self.same(with_place(ONE, ((0, 7),)), (2, ((0, 1, 7),)))

    def test_has_one_more(self):
        for web in ORDINARY + [row(39), star(39), alike(39)]:
            n, ways = web
            for given in (((0, 1),), ((n - 1, 200),), tuple((place, 1 + place) for place in range(n))):
                wanted = n + 1, tuple(sorted(ways + tuple((place, n, days) for place, days in given)))
                self.same(with_place(web, given), wanted)
                self.same(without_place(wanted, n), web)

    def test_refusals(self):
        self.refuses_in_order(with_place, (WEB, WEB_FAULTS), (((0, 1), (2, 1)), ROW_FAULTS))
        self.same(with_place(alike(39, 200), tuple((place, 200) for place in range(39))), BIG_ALIKE)
        for web in (row(40), BIG):
            self.refuses(TooMany, 41, with_place, web, ((0, 1),))
            self.refuses(TooMany, 41, with_place, web, ((39, 200),))
            self.refuses(BadRow, 0, with_place, web, ((40, 1),))
            self.refuses(BadRow, 0, with_place, web, ())
            self.refuses(BadRow, 0, with_place, web, ((0, 1), (0, 2)))

    def test_by_name(self):
        self.by_name(with_place, web=WEB, row=((0, 1),))


class WithoutPlace(Case):

    def test_example(self):
        self.same(without_place(WEB, 1), (3, ((0, 1, 3), (1, 2, 4))))
        self.refuses(Parted, 2, without_place, WEB, 2)

    def test_lacks_the_place_or_is_refused(self):
        for web in ORDINARY + [row(40), star(40), ring(40)]:
            n, ways = web
            for gone in range(n if n > 1 else 0):
                new = [place for place in range(n) if place != gone]
                kept = tuple((new.index(u), new.index(v), d) for u, v, d in ways if gone not in (u, v))
                apart = [place for place in range(n - 1) if place not in reached(kept, 0)]
                if apart:
                    self.refuses(Parted, apart[0], without_place, web, gone)
                else:
                    self.same(without_place(web, gone), (n - 1, kept))

    def test_edges(self):
        self.refuses(LastPlace, 0, without_place, ONE, 0)
        self.refuses(BadPlace, 0, without_place, ONE, 1)
        self.same(without_place(PAIR, 0), ONE)
        self.same(without_place(PAIR, 1), ONE)
        self.refuses(Parted, 1, without_place, star(40), 0)
        self.same(without_place(BIG_ALIKE, 17), alike(39, 200))

    def test_refusals(self):
        self.refuses_in_order(without_place, (WEB, WEB_FAULTS), (1, PLACE_FAULTS))

    def test_by_name(self):
        self.by_name(without_place, web=WEB, place=0)


ORDER_FAULTS = [(thing, BadOrder, 0) for thing in [
    None, True, 4, "0123", (), [0, 1, 2, 3], (0, 1, 2), (0, 1, 2, 3, 4), (0, 1, 2, 2), (0, 1, 2, 4), (1, 2, 3, 4),
    (False, 1, 2, 3), (0, True, 2, 3), (-1, 0, 1, 2), (0, 1, 2, "3"), (0, 1, 2, None), ((0,), 1, 2, 3),
    (0, 1, 2, [3]), (0, 1, 2, 10 ** 40)]]


class Renamed(Case):

    def test_example(self):
        self.same(renamed(WEB, (3, 0, 1, 2)), (4, ((0, 1, 2), (0, 3, 1), (1, 2, 4), (1, 3, 3))))

    def test_names(self):
        for web in (ONE, PAIR, THREE, FORK, WEB):
            for order in permutations(range(web[0])):
                ways = [tuple(sorted((order[u], order[v]))) + (d,) for u, v, d in web[1]]
                self.same(renamed(web, order), (web[0], tuple(sorted(ways))))

    def test_there_and_back(self):
        turned = tuple(reversed(range(40)))
        for web in GREAT:
            self.same(renamed(renamed(web, turned), turned), web)
            self.same(renamed(web, tuple(range(40))), web)

    def test_refusals(self):
        self.refuses_in_order(renamed, (WEB, WEB_FAULTS), ((3, 0, 1, 2), ORDER_FAULTS))
        self.refuses(BadOrder, 0, renamed, ONE, (False,))
        self.refuses(BadOrder, 0, renamed, PAIR, (False, True))

    def test_by_name(self):
        self.by_name(renamed, web=WEB, order=(1, 0, 3, 2))


if __name__ == "__main__":
    unittest.main()
