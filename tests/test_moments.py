"""Hands and moments: [7], [7.1] and [7.2]."""

import random
import unittest

from treeandtrip.errors import BadHands, BadMoment, TooMany
from treeandtrip.moments import count_of, first_moment, is_moment, made_hands, made_moment
from tests.day_samples import HANDS, HANDS_FAULTS, MOMENT, MOMENT_FAULTS, SOME, TWO_ASKS, crates_of, drawn_moment
from tests.day_samples import terms_for
from tests.samples import BIG, FORK, LOANS, NO_NUMBERS, ODD, ONE, PAIR, TERMS_FAULTS, TRIPS, WEB, WEB_FAULTS, Case, deep


class Hands(Case):

    def test_hands(self):
        for web in SOME + [BIG]:
            for many in (0, 1, 5000):
                hands = tuple(many for _ in range(web[0]))
                self.same(made_hands(web, hands), hands)
                self.same(first_moment(web, hands), (hands, (), ()))

    def test_edges(self):
        for hands in ((200000, 0, 0, 0), (0, 0, 0, 200000), (50000,) * 4, (0,) * 4, (199999, 0, 1, 0)):
            self.same(made_hands(WEB, hands), hands)
        self.same(made_hands(ONE, (0,)), (0,))
        self.same(made_hands(ONE, (200000,)), (200000,))
        self.refuses(BadHands, 0, made_hands, ONE, (200001,))
        self.same(made_hands(BIG, (5000,) * 40), (5000,) * 40)
        self.refuses(TooMany, 200001, made_hands, BIG, (5000,) * 39 + (5001,))
        self.refuses(BadHands, -1, made_hands, BIG, (5000,) * 41)
        self.refuses(BadHands, -1, made_hands, ONE, ())

    def test_refusals(self):
        for function in (made_hands, first_moment):
            self.refuses_in_order(function, (WEB, WEB_FAULTS), (HANDS, HANDS_FAULTS))
        self.by_name(made_hands, web=WEB, thing=HANDS)
        self.by_name(first_moment, web=WEB, hands=HANDS)

    def test_fresh(self):
        self.assertIsNot(made_hands(WEB, HANDS), HANDS)
        self.assertIsNot(first_moment(WEB, HANDS)[0], HANDS)


class Moments(Case):

    def test_moments(self):
        draw = random.Random(71)
        for web in SOME + [BIG]:
            for terms in terms_for(web) + [("loans", 2, 200, 0), ("loans", 2, 200, 100), ("loans", 2, 200, 200)]:
                for _ in range(4):
                    moment = drawn_moment(draw, web, terms)
                    self.same(made_moment(web, terms, moment), moment)
                    self.assertIs(is_moment(web, terms, moment), True)
                    self.same(count_of(moment), len(crates_of(moment)))

    def test_edges_of_days(self):
        for told in (0, 1, 3, 199, 200):
            terms = ("loans", 1, 200, told)
            for days in (0, 1, 2, 3, 4, 198, 199, 200):
                of_empties = ((1, 0, 0, 0), ((days, 3, 1),), ())
                of_told = ((1, 0, 0, 0), (), ((days, 3),))
                of_untold = ((1, 0, 0, 0), (), ((days, None),))
                self.assertIs(is_moment(WEB, terms, of_empties), days <= 199)
                self.assertIs(is_moment(WEB, terms, of_told), days < told)
                self.assertIs(is_moment(WEB, terms, of_untold), told <= days <= 199)

    def test_loans_of_trips(self):
        for days in range(7):
            self.assertIs(is_moment(FORK, TRIPS, ((0, 0, 0), (), ((days, 1),))), days < 5)
            self.assertIs(is_moment(FORK, TRIPS, ((0, 0, 0), (), ((days, None),))), False)

    def test_untold_loans_never_fall(self):
        terms = ("loans", 1, 6, 2)
        for days in [(2, 2, 2), (2, 5, 5), (3, 4, 5), (5, 5, 5)]:
            loans = tuple((many, None) for many in days)
            between = ((0, 1), loans[0], (1, 3), (0, 0), loans[1], (1, 1), loans[2], (0, 2))
            for good in (loans, between, between + ((5, None),) * 30):
                self.same(made_moment(WEB, terms, (HANDS, (), good)), (HANDS, (), good))
        for days in [(3, 2, 3), (2, 4, 3), (5, 4, 4)]:
            loans = tuple((many, None) for many in days)
            self.refuses(BadMoment, 2, made_moment, WEB, terms, (HANDS, (), loans))
            self.refuses(BadMoment, 2, made_moment, WEB, terms, (HANDS, (), loans[:2] + ((1, 1), loans[2])))

    def test_edges_of_crates(self):
        empties, loans = ((0, 0, 99999), (0, 3, 1), (199, 0, 40000)), ((0, 1), (1, None)) + ((2, None),) * 2
        moment = ((10000, 0, 0, 49996), empties, loans)
        self.same(made_moment(WEB, LOANS, moment), moment)
        self.refuses(TooMany, 200001, made_moment, WEB, LOANS, ((10000, 1, 0, 49996), empties, loans))
        self.refuses(TooMany, 200001, made_moment, WEB, LOANS, ((10000, 0, 0, 49996), empties, loans + ((2, None),)))
        self.same(made_moment(ONE, LOANS, ((0,), (), ((0, 0),) * 200000)), ((0,), (), ((0, 0),) * 200000))
        self.refuses(TooMany, 200001, made_moment, ONE, LOANS, ((0,), (), ((2, None),) * 200001))
        self.same(made_moment(ONE, LOANS, ((0,), ((0, 0, 200000),), ())), ((0,), ((0, 0, 200000),), ()))

    def test_refusals(self):
        self.refuses_in_order(made_moment, (WEB, WEB_FAULTS), (TWO_ASKS, TERMS_FAULTS), (MOMENT, MOMENT_FAULTS))
        self.by_name(made_moment, web=WEB, terms=TWO_ASKS, thing=MOMENT)
        self.by_name(is_moment, web=WEB, terms=TWO_ASKS, thing=MOMENT)
        self.refuses(BadMoment, 2, made_moment, WEB, ("loans", 1, 3, 0), ((0,) * 4, (), ((0, 1),)))
        self.refuses(BadMoment, 2, made_moment, WEB, ("loans", 1, 3, 3), ((0,) * 4, (), ((2, None),)))

    def test_judge_takes_anything(self):
        for thing, _, _ in MOMENT_FAULTS:
            self.assertIs(is_moment(WEB, TWO_ASKS, thing), False)
        for thing in ODD:
            self.assertIs(is_moment(WEB, TWO_ASKS, thing), False)
            self.assertIs(is_moment(thing, TWO_ASKS, MOMENT), False)
            self.assertIs(is_moment(WEB, thing, MOMENT), False)
            for other in ODD:
                self.assertIs(is_moment(WEB, TWO_ASKS, (thing, other, ())), False)
                self.assertIs(is_moment(WEB, TWO_ASKS, (HANDS, thing, other)), thing == other == ())
                self.assertIs(is_moment(PAIR, TWO_ASKS, ((1, 1), ((0, thing, other),), ())), False)
                self.assertIs(is_moment(PAIR, TWO_ASKS, ((1, 1), (), ((thing, other),))), False)

    def test_fresh(self):
        found = made_moment(WEB, TWO_ASKS, MOMENT)
        self.assertIsNot(found, MOMENT)
        for index in range(3):
            self.assertIsNot(found[index], MOMENT[index])
        self.assertIsNot(found[2][0], MOMENT[2][0])


class CountOf(Case):

    def test_counts(self):
        self.same(count_of((HANDS, (), ())), 13)
        self.same(count_of(MOMENT), 15)
        self.same(count_of(((), (), ())), 0)
        self.same(count_of(((200000,) * 50, ((0, 0, 10 ** 6),), (None,))), 50 * 200000 + 10 ** 6 + 1)

    def test_nothing_else_is_checked(self):
        self.same(count_of(((-5, 3), ((None, [], 4), ((), "a", -1)), (1, "b", None, True, []))), 6)
        self.same(count_of(((10 ** 40,), ((0, 0, 0),) * 2, ())), 10 ** 40)

    def test_refusals(self):
        faults = [(thing, BadMoment, -1) for thing in [
            None, True, 3, "abc", (), (HANDS,), (HANDS, ()), (HANDS, (), (), ()), [HANDS, (), ()], (None, None)]]
        faults += [((hands, (), ()), BadMoment, 0) for hands in [
            None, True, 5, "5", [], [1], (None,), (True,), (1, False), (1, "1"), (1, (1,)),
            deep(lambda thing: (thing,))]]
        faults += [((HANDS, empties, ()), BadMoment, 1) for empties in [
            None, True, 5, "5", [], (None,), (1,), ((),), ((1, 2),), ((1, 2, 3, 4),), ([0, 0, 1],), ((0, 0, True),),
            ((0, 0, 1), (0, 0, None)), ((0, 0, (1,)),), deep(lambda thing: (thing,))]]
        faults += [((HANDS, (), loans), BadMoment, 2) for loans in NO_NUMBERS if not isinstance(loans, tuple)]
        faults += [((None, None, None), BadMoment, 0), ((HANDS, None, None), BadMoment, 1)]
        self.refuses_in_order(count_of, (MOMENT, faults))
        self.by_name(count_of, moment=MOMENT)


if __name__ == "__main__":
    unittest.main()
