"""Worths: [6], [6.1] and [6.2]."""

import unittest
from itertools import combinations

from treeandtrip.errors import BadDays, BadMany, BadOffers, BadPlace, BadRow, BadTerms, Refused, TooMany
from treeandtrip.numbers import needed, summands
from treeandtrip.trees import hung
from treeandtrip.webs import days_between, with_place, with_way, without_way
from treeandtrip.worths import buys, free_ways, loan_gain, notice_gain, place_gain, way_gain
from tests.samples import BIG, BIG_ALIKE, DRAWN, FORK, LOANS, NO_NUMBERS, NO_PLACES, ONE, ORDINARY, PAIR, TERMS_FAULTS
from tests.samples import THREE, TRIPS, WEB, WEB_FAULTS, Case, alike, full, reached, ring, row, star
from tests.test_webs import DAYS_FAULTS, ROW_FAULTS, SECOND_FAULTS

PLACE_FAULTS = [(thing, BadPlace, 0) for thing in NO_PLACES]
SOME = [PAIR, WEB, THREE, FORK, row(5), star(5), ring(5), alike(5)] + DRAWN[:25]
OFFERS = ((0, 3, 3, 5), (2, 3, 1, 6), (0, 2, 1, 1))


def trips_for(web):
    n = web[0]
    return "trips", 3, tuple(tuple(0 if a == b else 1 + (a + 2 * b) % 3 for b in range(n)) for a in range(n))


class WayGain(Case):

    def test_what_a_way_saves(self):
        for web in SOME:
            if web[0] == 1:
                continue
            for terms in (LOANS, ("loans", 7, 9, 0), trips_for(web)):
                for u, v in combinations(range(web[0]), 2):
                    for d in (1, 2, 3, 5, 9):
                        wanted = needed(web, terms) - needed(with_way(web, u, v, d), terms)
                        self.same(way_gain(web, terms, u, v, d), wanted)
                        self.same(way_gain(web, terms, v, u, d), wanted)

    def test_when_it_is_0(self):
        for web in SOME:
            for terms in (LOANS, ("loans", 2, 4, 4)):
                for u, v in combinations(range(web[0]), 2):
                    for d in range(1, 8):
                        self.check_when_it_is_0(web, u, v, d, way_gain(web, terms, u, v, d))

    def check_when_it_is_0(self, web, u, v, d, gain):
        days = days_between(web, u, v)
        if days is None or days >= d:
            self.assertTrue(gain == 0 if d >= hung(web, u, v) else gain > 0)
        else:
            self.assertTrue(gain == 0 if (u, v, days) in free_ways(web) else gain < 0)

    def test_edges(self):
        self.same(way_gain(PAIR, ("loans", 20, 200, 0), 1, 0, 200), -20 * 2 * 193)
        self.same(way_gain(BIG_ALIKE, ("loans", 2, 5, 0), 39, 0, 1), 2 * 199)
        self.same(way_gain(BIG_ALIKE, LOANS, 39, 0, 200), 0)
        self.same(way_gain(row(40), LOANS, 0, 39, 200), 0)

    def test_refusals(self):
        self.refuses_in_order(
            way_gain, (WEB, WEB_FAULTS), (LOANS, TERMS_FAULTS), (0, PLACE_FAULTS),
            (1, SECOND_FAULTS + [(0, BadPlace, 1)]), (5, DAYS_FAULTS))
        self.refuses(BadPlace, 1, way_gain, ONE, LOANS, 0, 0, 1)
        self.refuses(BadPlace, 1, way_gain, WEB, LOANS, 2, 2, 0)
        self.refuses(BadTerms, 0, way_gain, ONE, ("trips", 1, ((0,),)), 0, 0, 0)
        self.refuses(BadDays, 0, way_gain, FORK, TRIPS, 2, 1, True)
        self.by_name(way_gain, web=WEB, terms=LOANS, u=0, v=3, d=3)


class FreeWays(Case):

    def test_by_the_words(self):
        for web in ORDINARY + [row(40), star(40), ring(40), BIG]:
            wanted = []
            for way in web[1]:
                quick = [other for other in web[1] if other != way and other[2] <= way[2]]
                if way[1] in reached(quick, way[0]):
                    wanted.append(way)
            self.same(free_ways(web), tuple(wanted))

    def test_what_closing_a_way_costs(self):
        for web in SOME:
            free = free_ways(web)
            for way in web[1]:
                try:
                    after = needed(without_way(web, way[0], way[1]), LOANS)
                except Refused:
                    self.assertNotIn(way, free)
                    continue
                self.assertEqual(after == needed(web, LOANS), way in free)
                self.assertGreaterEqual(after, needed(web, LOANS))

    def test_edges(self):
        self.same(free_ways(ONE), ())
        self.same(free_ways(PAIR), ())
        self.same(free_ways(row(40)), ())
        self.same(free_ways(star(40)), ())
        self.same(free_ways(ring(40)), ring(40)[1])
        self.same(free_ways(BIG_ALIKE), BIG_ALIKE[1])
        self.same(free_ways((3, ((0, 1, 5), (0, 2, 5), (1, 2, 6)))), ((1, 2, 6),))

    def test_refusals(self):
        self.refuses_in_order(free_ways, (WEB, WEB_FAULTS))
        self.by_name(free_ways, web=WEB)


class NoticeAndLoan(Case):

    def test_notice(self):
        for web in SOME + [ONE, BIG, BIG_ALIKE]:
            for k in (1, 20):
                for days, told in ((1, 0), (1, 1), (5, 0), (5, 3), (5, 4), (5, 5), (200, 4), (200, 199), (200, 200)):
                    terms = ("loans", k, days, told)
                    found = notice_gain(web, terms)
                    longest_leg = summands(web, terms)[2]
                    self.same(found, k if told < longest_leg and told < days else 0)
                    if told < days:
                        self.assertEqual(found, needed(web, terms) - needed(web, ("loans", k, days, told + 1)))

    def test_notice_of_trips(self):
        for web in SOME:
            if web[0] > 1:
                self.same(notice_gain(web, trips_for(web)), 0)

    def test_loan(self):
        for web in SOME + [ONE, BIG, BIG_ALIKE]:
            for k in (1, 2, 20):
                for days, told in ((1, 0), (1, 1), (7, 3), (199, 199), (200, 0), (200, 200)):
                    terms = ("loans", k, days, told)
                    self.same(loan_gain(web, terms), k)
                    if days < 200:
                        self.assertEqual(k, needed(web, ("loans", k, days + 1, told)) - needed(web, terms))

    def test_refusals(self):
        for function in (notice_gain, loan_gain):
            self.refuses_in_order(function, (WEB, WEB_FAULTS), (LOANS, TERMS_FAULTS))
            self.by_name(function, web=WEB, terms=LOANS)
        self.refuses(BadTerms, 0, loan_gain, FORK, TRIPS)
        self.refuses(BadTerms, 0, loan_gain, ONE, ("trips", 1, ((0,),)))
        self.refuses(BadTerms, 2, loan_gain, WEB, TRIPS)


class PlaceGain(Case):

    def test_what_a_place_costs(self):
        for web in SOME + [ONE, row(39)]:
            n = web[0]
            rows = [((0, 1),), ((n - 1, 200),), tuple((place, 1 + place % 3) for place in range(n))]
            for terms in (LOANS, ("loans", 20, 200, 0)):
                for given in rows:
                    wanted = needed(with_place(web, given), terms) - needed(web, terms)
                    self.same(place_gain(web, terms, given), wanted)

    def test_edges(self):
        self.same(place_gain(ONE, ("loans", 3, 5, 2), ((0, 9),)), 3 * (9 + 7))
        self.same(place_gain(alike(39, 200), LOANS, ((38, 200),)), 200)
        for web in (row(40), BIG, BIG_ALIKE):
            self.refuses(TooMany, 41, place_gain, web, LOANS, ((0, 1),))
            self.refuses(BadRow, 0, place_gain, web, LOANS, ((40, 1),))

    def test_refusals(self):
        self.refuses_in_order(place_gain, (WEB, WEB_FAULTS), (LOANS, TERMS_FAULTS), (((0, 1),), ROW_FAULTS))
        for given in (((0, 1),), (), None, ((3, 1),)):
            self.refuses(BadTerms, 0, place_gain, FORK, TRIPS, given)
        great = "trips", 1, tuple(tuple(0 if a == b else 1 for b in range(40)) for a in range(40))
        self.refuses(BadTerms, 0, place_gain, BIG, great, ())
        self.refuses(BadTerms, 0, place_gain, BIG, great, ((0, 1),))
        self.by_name(place_gain, web=WEB, terms=LOANS, row=((0, 1), (3, 1)))


OFFERS_FAULTS = [(thing, BadOffers, -1) for thing in [
    None, True, 3, "offers", [], list(OFFERS), (OFFERS[0],) * 11, (None,) * 11]]
OFFERS_FAULTS += [((offer,), BadOffers, 0) for offer in [
    None, 1, (), (0, 1, 1), (0, 1, 1, 1, 1), [0, 1, 1, 1], (1, 0, 1, 1), (1, 1, 1, 1), (0, 4, 1, 1), (-1, 0, 1, 1),
    (4, 5, 1, 1), (0, 1, 0, 1), (0, 1, 201, 1), (0, 1, -1, 1), (0, 1, 1, -1), (0, 1, 1, 1001), (0, 1, 1, 10 ** 40),
    (False, 1, 1, 1), (0, True, 1, 1), (0, 1, True, 1), (0, 1, 1, False), (0, 1, 1, True), (0, 1, 1, None),
    (0, 1, 1, "1"), ("0", "1", 1, 1), ((0,), 1, 1, 1), (0, 1, [1], 1)]]
OFFERS_FAULTS += [
    (OFFERS + (5,), BadOffers, 3), (OFFERS[:1] + (None,) + OFFERS[1:] + (5,), BadOffers, 1),
    (((0, 1, 1, 1),) * 9 + ((0, 1, 1, True),), BadOffers, 9)]
CRATES_FAULTS = [(thing, BadMany, 0) for thing in NO_NUMBERS + [-1, 200001, 10 ** 40]]


def bought(web, offers, choice):
    """The web with these offers bought, one after another."""
    for index in choice:
        u, v, d, _ = offers[index]
        days = days_between(web, u, v)
        if days is None or days > d:
            web = with_way(web, u, v, d)
    return web


def best(web, terms, offers, crates):
    """The choice that `buys` is to return, told straight from the words of [6.1]."""
    choices = [choice for many in range(len(offers) + 1) for choice in combinations(range(len(offers)), many)]
    ranked = [
        (sum(offers[index][3] for index in choice), len(choice), choice) for choice in choices
        if needed(bought(web, offers, choice), terms) <= crates]
    return min(ranked)[2] if ranked else None


class Buys(Case):

    def check(self, web, terms, offers, *given):
        least = needed(bought(web, offers, range(len(offers))), terms)
        for crates in sorted(set(given) | set(range(least - 1, needed(web, terms) + 1))):
            self.same(buys(web, terms, offers, crates), best(web, terms, offers, crates))

    def test_example(self):
        self.check(WEB, LOANS, OFFERS, 0, 200000)

    def test_webs(self):
        for seed, web in enumerate(SOME):
            pairs = list(combinations(range(web[0]), 2))
            if pairs:
                drawn = [pairs[(seed + at * 3) % len(pairs)] for at in range(4)]
                offers = tuple(drawn[at] + (1 + (seed + at) % 3, at * 7 % 4) for at in range(4))
                self.check(web, LOANS if seed % 2 else trips_for(web), offers)

    def test_no_offers(self):
        self.same(buys(WEB, LOANS, (), 13), ())
        self.assertIsNone(buys(WEB, LOANS, (), 12))
        self.same(buys(ONE, ("loans", 1, 1, 0), (), 1), ())
        self.assertIsNone(buys(ONE, ("loans", 1, 1, 0), (), 0))
        self.refuses(BadOffers, 0, buys, ONE, LOANS, ((0, 0, 1, 1),), 5)

    def test_equal_offers(self):
        self.check(PAIR, LOANS, ((0, 1, 3, 5),) * 4)
        self.same(buys(PAIR, LOANS, ((0, 1, 3, 5),) * 4, needed((2, ((0, 1, 3),)), LOANS)), (0,))
        self.check(PAIR, LOANS, ((0, 1, 3, 5), (0, 1, 2, 5), (0, 1, 3, 4), (0, 1, 2, 5)))

    def test_offers_that_do_nothing(self):
        self.check(WEB, LOANS, ((0, 1, 1, 3), (0, 1, 200, 0), (2, 3, 4, 0), (0, 2, 3, 0)))
        self.same(buys(WEB, LOANS, ((0, 1, 200, 0), (2, 3, 9, 0)), 13), ())
        self.assertIsNone(buys(WEB, LOANS, ((0, 1, 200, 0), (2, 3, 9, 0)), 12))

    def test_prices_of_0(self):
        self.same(buys(WEB, LOANS, ((2, 3, 3, 0), (2, 3, 3, 0), (2, 3, 2, 0)), 13), ())
        self.same(buys(WEB, LOANS, ((2, 3, 3, 0), (2, 3, 3, 0), (2, 3, 2, 0)), 12), (0,))
        self.check(WEB, LOANS, ((2, 3, 3, 0), (2, 3, 3, 0), (2, 3, 2, 0), (0, 1, 1, 0), (0, 3, 1, 0)))

    def test_fewest_then_least(self):
        self.check(WEB, LOANS, ((0, 3, 3, 1), (0, 2, 1, 1), (2, 3, 1, 2), (1, 3, 1, 2), (0, 3, 1, 3)))
        self.same(buys(PAIR, LOANS, ((0, 1, 6, 0), (0, 1, 5, 2), (0, 1, 5, 2)), needed((2, ((0, 1, 5),)), LOANS)), (1,))

    def test_ten_offers(self):
        web = full(5, lambda u, v: 9)
        offers = tuple((u, v, 1 + (u + v) % 4, (u * 3 + v) % 5) for u, v in combinations(range(5), 2))
        self.assertEqual(len(offers), 10)
        least = needed(bought(web, offers, range(10)), LOANS)
        for crates in (least - 1, least, least + 3, needed(web, LOANS) - 1):
            self.same(buys(web, LOANS, offers, crates), best(web, LOANS, offers, crates))
        for web in (BIG, BIG_ALIKE):
            offers = tuple((at, at + 1, 1, 1000) for at in range(10))
            last = needed(bought(web, offers, range(10)), LOANS)
            self.assertIsNone(buys(web, LOANS, offers, last - 1))
            self.same(buys(web, LOANS, offers, 200000), ())
            choice = buys(web, LOANS, offers, last)
            self.assertEqual(needed(bought(web, offers, choice), LOANS), last)

    def test_bounds(self):
        self.same(buys(PAIR, LOANS, ((0, 1, 1, 1000),), needed((2, ((0, 1, 1),)), LOANS)), (0,))
        self.same(buys(PAIR, LOANS, ((0, 1, 200, 0),), 200000), ())
        self.assertIsNone(buys(PAIR, LOANS, ((0, 1, 1, 0),), 0))

    def test_refusals(self):
        self.refuses_in_order(
            buys, (WEB, WEB_FAULTS), (LOANS, TERMS_FAULTS), (OFFERS, OFFERS_FAULTS), (13, CRATES_FAULTS))
        self.by_name(buys, web=WEB, terms=LOANS, offers=OFFERS, crates=8)


if __name__ == "__main__":
    unittest.main()
