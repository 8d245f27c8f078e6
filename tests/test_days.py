"""Tells, asks and sends, and what a day does: [7.3] and [7.4]."""

import random
import unittest

from treeandtrip import errors
from treeandtrip.days import after_day, made_asks, made_tells, opened
from treeandtrip.errors import BadAsks, BadSends, BadTells, Lacks, TooFew, Untold
from treeandtrip.moments import count_of, first_moment, is_moment
from tests.day_samples import ASKS, ASKS_FAULTS, DAY, DAY_FAULTS, MOMENT, MOMENT_FAULTS, SENDS, SOME, STILL, TELLS
from tests.day_samples import TELLS_FAULTS, TWO_ASKS, amid_by_words, day_by_words, drawn_day, drawn_moment, numbers_of
from tests.day_samples import terms_for
from tests.samples import BIG, FORK, LOANS, ONE, PAIR, TERMS_FAULTS, TRIPS, WEB, WEB_FAULTS, Case


class Tells(Case):

    def test_tells(self):
        for tells in ((), ((1, 2),), ((3, 0),), TELLS, ((1, 0), (3, 0)), ((1, 3), (3, 3))):
            self.same(made_tells(WEB, TWO_ASKS, MOMENT, tells), tells)

    def test_loans_with_any_days_may_be_told(self):
        for told in (0, 1, 7):
            terms = ("loans", 1, 200, told)
            loans = tuple((days, None) for days in range(told, 200))
            moment = ((0,) * 4, (), loans)
            tells = tuple((index, index % 4) for index in range(len(loans)))
            self.same(made_tells(WEB, terms, moment, tells), tells)
            self.refuses(BadTells, len(loans), made_tells, WEB, terms, moment, tells + ((len(loans), 0),))

    def test_no_untold_loans(self):
        moment = ((1, 1, 1), ((0, 1, 1),), ((0, 1), (4, 2)))
        self.same(made_tells(FORK, TRIPS, moment, ()), ())
        self.same(made_tells(FORK, ("loans", 1, 5, 5), moment, ()), ())
        for index in range(3):
            self.refuses(BadTells, 0, made_tells, FORK, TRIPS, moment, ((index, 0),))
            self.refuses(BadTells, 0, made_tells, FORK, ("loans", 1, 5, 5), moment, ((index, 0),))

    def test_refusals(self):
        self.refuses_in_order(
            made_tells, (WEB, WEB_FAULTS), (TWO_ASKS, TERMS_FAULTS), (MOMENT, MOMENT_FAULTS), (TELLS, TELLS_FAULTS))
        self.by_name(made_tells, web=WEB, terms=TWO_ASKS, moment=MOMENT, thing=TELLS)

    def test_fresh(self):
        found = made_tells(WEB, TWO_ASKS, MOMENT, TELLS)
        self.assertIsNot(found, TELLS)
        self.assertIsNot(found[0], TELLS[0])


class Asks(Case):

    def test_loans(self):
        for web in (ONE, PAIR, WEB, BIG):
            for days in (1, 2, 200):
                for told in {0, 1, days // 2, days}:
                    self.check_loans(web, ("loans", 1, days, told))

    def check_loans(self, web, terms):
        _, longest, told = numbers_of(terms)
        for place in {0, web[0] // 2, web[0] - 1}:
            for days in (0, 1, 2, told, told + 1, 200, 201):
                for home in (0, place, web[0] - 1):
                    self.check_ask(web, terms, (place, (days, home)), 1 <= days <= told)
            self.check_ask(web, terms, (place, None), told < longest)

    def check_ask(self, web, terms, ask, good):
        if good:
            self.same(made_asks(web, terms, (ask,)), (ask,))
        else:
            self.refuses(BadAsks, 0, made_asks, web, terms, (ask,))

    def test_trips(self):
        for place in range(3):
            for home in range(3):
                for days in range(7):
                    good = home != place and days == TRIPS[2][place][home]
                    self.check_ask(FORK, TRIPS, (place, (days, home)), good)
            self.check_ask(FORK, TRIPS, (place, None), False)
        quick = ("trips", 1, ((0, 1), (1, 0)))
        self.check_ask(PAIR, quick, (0, (1, 1)), True)
        for back in ((True, 1), (1, True), (1, 0), (0, 0), (False, 0)):
            self.check_ask(PAIR, quick, (0, back), False)
        self.check_ask(PAIR, quick, (False, (1, 1)), False)

    def test_how_many(self):
        for k in (1, 2, 20):
            terms = ("loans", k, 3, 1)
            for many in (0, 1, k - 1, k):
                self.same(made_asks(WEB, terms, ((3, None),) * many), ((3, None),) * many)
            self.refuses(BadAsks, -1, made_asks, WEB, terms, ((3, None),) * (k + 1))
            self.refuses(BadAsks, -1, made_asks, WEB, terms, (None,) * (k + 1))
            self.refuses(BadAsks, k - 1, made_asks, WEB, terms, ((3, None),) * (k - 1) + ((4, None),))

    def test_refusals(self):
        self.refuses_in_order(made_asks, (WEB, WEB_FAULTS), (TWO_ASKS, TERMS_FAULTS), (ASKS, ASKS_FAULTS))
        self.by_name(made_asks, web=WEB, terms=TWO_ASKS, thing=ASKS)

    def test_fresh(self):
        found = made_asks(WEB, TWO_ASKS, ASKS)
        self.assertIsNot(found, ASKS)
        self.assertIsNot(found[1][1], ASKS[1][1])


class Opened(Case):

    def test_by_the_words(self):
        draw = random.Random(74)
        for web in SOME:
            for terms in terms_for(web):
                for _ in range(6):
                    moment = drawn_moment(draw, web, terms)
                    tells, asks, _ = drawn_day(draw, web, terms, moment)
                    found = opened(web, terms, moment, tells, asks)
                    self.same(found, amid_by_words(web, terms, moment, tells, asks))
                    self.assertEqual(count_of(found), count_of(moment))
                    self.check_days(found, terms)

    def check_days(self, found, terms):
        """All days amid a day are at least 1; an untold loan may have L days and a told one j."""
        _, longest, told = numbers_of(terms)
        self.assertTrue(all(days >= 1 for days, _, _ in found[1]))
        for days, home in found[2]:
            self.assertTrue(told < days <= longest if home is None else 1 <= days <= told)

    def test_without_what_is_needed(self):
        """Days of which the tells or the crates are not enough are refused as the words have it."""
        draw = random.Random(75)
        seen = set()
        for web in SOME:
            for terms in terms_for(web):
                for _ in range(6):
                    moment = drawn_moment(draw, web, terms, 2)
                    tells, asks, _ = drawn_day(draw, web, terms, moment)
                    tells = tuple(tell for tell in tells if draw.random() < 0.8)
                    asks = (asks * 20)[:terms[1]]
                    wanted = amid_by_words(web, terms, moment, tells, asks)
                    if wanted[0] in ("Untold", "Lacks"):
                        seen.add(wanted[0])
                        error = getattr(errors, wanted[0])
                        self.refuses(error, wanted[1], opened, web, terms, moment, tells, asks)
                        self.refuses(error, wanted[1], after_day, web, terms, moment, (tells, asks, ()))
                    else:
                        self.same(opened(web, terms, moment, tells, asks), wanted)
        self.assertEqual(seen, {"Untold", "Lacks"})

    def test_untold(self):
        loans = ((0, 1), (1, None), (1, None), (0, 3), (1, None), (2, None))
        moment = ((0,) * 4, (), loans)
        for tells, what in (((), 1), (((1, 0),), 2), (((2, 0), (4, 0)), 1), (((1, 0), (2, 0)), 4), (((5, 0),), 1)):
            self.refuses(Untold, what, opened, WEB, LOANS, moment, tells, ())
            self.refuses(Untold, what, after_day, WEB, LOANS, moment, (tells, (), ()))
        told = opened(WEB, LOANS, moment, ((1, 0), (2, 0), (4, 2)), ())
        self.same(told, ((0, 1, 0, 1), (), ((1, 0), (1, 0), (1, 2), (2, None))))

    def test_told_loans_have_just_the_days_of_the_notice(self):
        terms = ("loans", 1, 9, 3)
        moment = ((0,) * 4, (), ((2, 0), (4, None), (8, None)))
        found = opened(WEB, terms, moment, ((1, 1), (2, 2)), ())
        self.same(found, ((0,) * 4, (), ((2, 0), (3, 1), (3, 2))))

    def test_without_notice_a_loan_comes_when_it_is_told(self):
        terms = ("loans", 3, 4, 0)
        moment = ((0, 0), (), ((0, None), (1, None), (3, None)))
        self.same(opened(PAIR, terms, moment, ((0, 1), (2, 0)), ()), ((1, 1), (), ((1, None),)))
        self.same(
            opened(PAIR, terms, moment, ((0, 1), (2, 1)), ((1, None), (1, None))),
            ((0, 0), (), ((1, None), (4, None), (4, None))))
        self.refuses(Lacks, 1, opened, PAIR, terms, moment, ((0, 1),), ((1, None), (1, None)))
        self.refuses(Untold, 0, opened, PAIR, terms, moment, ((2, 0),), ())

    def test_lacks(self):
        moment = ((2, 0, 1, 0), ((0, 1, 1), (1, 3, 5)), ((0, 3),))
        terms = ("loans", 4, 3, 1)
        for places, what in (((0, 0, 0), 2), ((1, 1), 1), ((1, 0, 3, 3), 3), ((2, 2, 1, 1), 1), ((3, 3, 9), None)):
            asks = tuple((place, None) for place in places)
            if what is None:
                self.refuses(BadAsks, 2, opened, WEB, terms, moment, (), asks)
            else:
                self.refuses(Lacks, what, opened, WEB, terms, moment, (), asks)
        self.same(
            opened(WEB, terms, moment, (), ((3, (1, 3)), (0, None), (1, (1, 0)))),
            ((1, 0, 1, 0), ((1, 3, 5),), ((1, 3), (3, None), (1, 0))))

    def test_refusals(self):
        self.refuses_in_order(
            opened, (WEB, WEB_FAULTS), (TWO_ASKS, TERMS_FAULTS), (MOMENT, MOMENT_FAULTS), (TELLS, TELLS_FAULTS),
            (ASKS, ASKS_FAULTS))
        for asks, error, what in ASKS_FAULTS:
            self.refuses(error, what, opened, WEB, TWO_ASKS, MOMENT, (), asks)
        self.refuses(Untold, 1, opened, WEB, TWO_ASKS, MOMENT, ((3, 0),), ((2, None), (2, None)))
        self.refuses(Lacks, 1, opened, WEB, TWO_ASKS, MOMENT, ((1, 0),), ((2, None), (2, None)))
        self.by_name(opened, web=WEB, terms=TWO_ASKS, moment=MOMENT, tells=TELLS, asks=ASKS)

    def test_edges(self):
        self.same(opened(ONE, ("loans", 1, 1, 1), ((200000,), (), ()), (), ()), ((200000,), (), ()))
        self.same(opened(ONE, ("loans", 1, 1, 1), ((0,), (), ((0, 0),)), (), ((0, (1, 0)),)), ((0,), (), ((1, 0),)))
        self.same(opened(ONE, ("loans", 1, 1, 0), ((0,), (), ((0, None),)), ((0, 0),), ()), ((1,), (), ()))
        self.refuses(Lacks, 0, opened, ONE, ("loans", 1, 1, 1), ((0,), ((1, 0, 9),), ()), (), ((0, (1, 0)),))


class AfterDay(Case):

    def test_by_the_words(self):
        draw = random.Random(76)
        for web in SOME:
            for terms in terms_for(web):
                for _ in range(6):
                    moment = drawn_moment(draw, web, terms)
                    day = drawn_day(draw, web, terms, moment)
                    found = after_day(web, terms, moment, day)
                    self.same(found, day_by_words(web, terms, moment, day))
                    self.assertIs(is_moment(web, terms, found), True)
                    self.assertEqual(count_of(found), count_of(moment))

    def test_empties_that_come_together_are_one_item(self):
        moment = ((9, 9, 9, 9), ((1, 1, 4), (2, 0, 1), (3, 1, 2)), ())
        found = after_day(WEB, LOANS, moment, ((), (), ((0, 1, 3), (0, 2, 1), (2, 0, 2), (2, 1, 5))))
        self.same(found, ((5, 9, 2, 9), ((0, 1, 7), (1, 0, 1), (1, 1, 5), (2, 0, 2), (2, 1, 2), (2, 2, 1)), ()))
        found = after_day(WEB, LOANS, moment, ((), (), ((2, 0, 2), (2, 1, 5))))
        self.same(found, ((9, 9, 2, 9), ((0, 1, 4), (1, 0, 1), (1, 1, 5), (2, 0, 2), (2, 1, 2)), ()))

    def test_a_crate_that_has_just_come_can_be_sent(self):
        moment = ((0, 0, 0, 0), ((0, 0, 2),), ((0, 1),))
        found = after_day(WEB, LOANS, moment, ((), (), ((0, 1, 2), (1, 0, 1))))
        self.same(found, ((0, 0, 0, 0), ((0, 0, 1), (0, 1, 2)), ()))
        self.refuses(TooFew, 0, after_day, WEB, LOANS, moment, ((), ((0, None),), ((0, 1, 2),)))

    def test_too_few(self):
        moment = ((5, 0, 2, 0), ((1, 1, 9),), ((1, None),))
        for sends, what in [
                (((0, 1, 6),), 0), (((0, 1, 5), (0, 2, 1)), 1), (((1, 0, 1),), 0), (((0, 1, 1), (1, 0, 1)), 1),
                (((0, 1, 2), (0, 2, 3), (2, 0, 2), (2, 3, 1)), 3), (((3, 2, 200000),), 0)]:
            self.refuses(TooFew, what, after_day, WEB, LOANS, moment, (((0, 3),), (), sends))
        self.refuses(TooFew, 1, after_day, WEB, LOANS, moment, (((0, 3),), ((2, None),), ((0, 1, 5), (2, 1, 2))))

    def test_edges(self):
        terms = ("loans", 1, 200, 0)
        far = (2, ((0, 1, 200),))
        self.same(after_day(far, terms, ((1, 0), (), ()), ((), (), ((0, 1, 1),))), ((0, 0), ((199, 1, 1),), ()))
        self.same(
            after_day(far, terms, ((1, 0), (), ()), ((), ((0, None),), ())), ((0, 0), (), ((199, None),)))
        self.same(
            after_day(PAIR, TWO_ASKS, ((200000, 0), (), ()), ((), (), ((0, 1, 200000),))),
            ((0, 0), ((6, 1, 200000),), ()))
        self.same(after_day(ONE, LOANS, ((0,), (), ()), STILL), ((0,), (), ()))
        self.refuses(BadSends, 0, after_day, ONE, LOANS, ((1,), (), ()), ((), (), ((0, 0, 1),)))
        whole = first_moment(BIG, (5000,) * 40)
        sends = tuple((u, v, 1) for u in range(40) for v in range(40) if u != v)
        self.same(count_of(after_day(BIG, LOANS, whole, ((), (), sends))), 200000)

    def test_refusals(self):
        self.refuses_in_order(
            after_day, (WEB, WEB_FAULTS), (TWO_ASKS, TERMS_FAULTS), (MOMENT, MOMENT_FAULTS), (DAY, DAY_FAULTS))
        self.by_name(after_day, web=WEB, terms=TWO_ASKS, moment=MOMENT, day=DAY)

    def test_what_comes_last(self):
        lacking, sends = ((2, None), (2, None)), ((0, 1, 9),)
        self.refuses(BadSends, 0, after_day, WEB, TWO_ASKS, MOMENT, ((), lacking, ((0, 3, 1),)))
        self.refuses(Untold, 1, after_day, WEB, TWO_ASKS, MOMENT, ((), lacking, sends))
        self.refuses(Lacks, 1, after_day, WEB, TWO_ASKS, MOMENT, (TELLS, lacking, sends))
        self.refuses(TooFew, 0, after_day, WEB, TWO_ASKS, MOMENT, (TELLS, lacking[:1], sends))
        self.refuses(Untold, 0, after_day, WEB, LOANS, ((5, 1, 1, 3), ((0, 2, 1), (2, 3, 1)), ((1, None),)), STILL)

    def test_items_of_another_kind(self):
        """What Python finds equal is not always the same."""
        moment = ((1, 1, 1, 1), (), ((1, None), (1, None)))
        good = ((0, 0), (1, 1)), ((1, (1, 1)),), ((0, 1, 1),)
        self.assertEqual(count_of(after_day(WEB, TWO_ASKS, moment, good)), 6)
        for error, what, day in [
                (BadTells, 0, (((False, 0), (1, 1)),) + good[1:]), (BadTells, 1, (((0, 0), (1, True)),) + good[1:]),
                (BadAsks, 0, good[:1] + (((True, (1, 1)),),) + good[2:]),
                (BadAsks, 0, good[:1] + (((1, (True, 1)),),) + good[2:]),
                (BadSends, 0, good[:2] + (((0, 1, True),),)), (BadSends, 0, good[:2] + (((False, 1, 1),),))]:
            self.refuses(error, what, after_day, WEB, TWO_ASKS, moment, day)

    def test_nothing_is_changed(self):
        after_day(WEB, TWO_ASKS, MOMENT, DAY)
        opened(WEB, TWO_ASKS, MOMENT, TELLS, ASKS)
        self.same(MOMENT, ((5, 1, 0, 3), ((0, 2, 1), (2, 3, 1)), ((0, 1), (1, None), (0, 3), (2, None))))
        self.same(
            after_day(WEB, TWO_ASKS, MOMENT, DAY), day_by_words(WEB, TWO_ASKS, MOMENT, (TELLS, ASKS, SENDS)))


if __name__ == "__main__":
    unittest.main()
