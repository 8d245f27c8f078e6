"""Runs: [8]."""

import unittest

from treeandtrip.days import after_day
from treeandtrip.errors import BadHands, BadRun, TooMany
from treeandtrip.moments import count_of, is_moment
from treeandtrip.runs import is_run, made_run, moments
from tests.day_samples import HANDS, RUN, RUN_FAULTS, SOME, STILL, day_by_words, drawn_run, terms_for
from tests.samples import BIG, FORK, LOANS, ODD, ONE, PAIR, TERMS_FAULTS, TRIPS, WEB, WEB_FAULTS, Case


class Runs(Case):

    def test_by_the_words(self):
        for seed, web in enumerate(SOME):
            for terms in terms_for(web):
                run = drawn_run(seed, web, terms, 9)
                self.same(made_run(web, terms, run), run)
                self.assertIs(is_run(web, terms, run), True)
                found = moments(web, terms, run)
                self.same(found, self.moments_by_words(web, terms, run))
                for moment in found:
                    self.assertIs(is_moment(web, terms, moment), True)
                    self.assertEqual(count_of(moment), sum(run[0]))

    def moments_by_words(self, web, terms, run):
        found = [(run[0], (), ())]
        for day in run[1]:
            found.append(day_by_words(web, terms, found[-1], day))
        return tuple(found)

    def test_day_by_day(self):
        for seed in range(6):
            terms = ("loans", 2, 5, 2)
            run = drawn_run(100 + seed, WEB, terms, 40, (9, 9, 9, 9))
            moment = (run[0], (), ())
            for index, found in enumerate(moments(WEB, terms, run)):
                self.same(found, moment)
                if index < 40:
                    moment = after_day(WEB, terms, moment, run[1][index])

    def test_the_first_bad_day(self):
        terms = ("loans", 2, 5, 2)
        hands, days = drawn_run(8, WEB, terms, 20, (9, 9, 9, 9))
        for index in range(21):
            for bad in (None, ((), (), None), (((99, 0),), (), ()), ((), ((0, (3, 0)),), ()), ((), (), ((0, 1, 37),))):
                run = hands, days[:index] + (bad,) + (None,) * (index % 2)
                self.refuses(BadRun, index, made_run, WEB, terms, run)
                self.refuses(BadRun, index, moments, WEB, terms, run)
                self.assertIs(is_run(WEB, terms, run), False)

    def test_days_that_cannot_be_done_there(self):
        """A good day in the wrong place: what must be told is not, or a crate is not there."""
        quick = ("loans", 1, 1, 0)
        ask = ((), ((0, None),), ())
        self.assertIs(is_run(PAIR, quick, ((1, 0), (ask, (((0, 0),), (), ())))), True)
        self.refuses(BadRun, 1, made_run, PAIR, quick, ((1, 0), (ask, STILL)))
        self.refuses(BadRun, 0, made_run, PAIR, quick, ((0, 1), (ask, STILL)))
        self.refuses(BadRun, 1, made_run, PAIR, quick, ((1, 0), (ask, (((0, 1),), ((0, None),), ()))))
        self.assertIs(is_run(PAIR, quick, ((1, 0), (ask, (((0, 0),), ((0, None),), ())))), True)

    def test_edges(self):
        self.same(made_run(ONE, LOANS, ((0,), ())), ((0,), ()))
        self.same(moments(ONE, LOANS, ((0,), ())), (((0,), (), ()),))
        self.same(moments(ONE, LOANS, ((3,), (STILL,))), (((3,), (), ()),) * 2)
        trip = (1, 0, 0), (((), ((0, (3, 2)),), ()),)
        self.same(made_run(FORK, TRIPS, trip), trip)
        self.refuses(TooMany, 200001, made_run, PAIR, LOANS, ((200000, 1), ()))
        self.refuses(BadHands, 0, made_run, PAIR, LOANS, ((200001, 1), (None,)))

    def test_600_days(self):
        for web, hands in ((ONE, (5,)), (WEB, HANDS), (BIG, (5000,) * 40)):
            run = hands, (STILL,) * 600
            self.same(made_run(web, LOANS, run), run)
            self.assertEqual(moments(web, LOANS, run), ((hands, (), ()),) * 601)
            self.refuses(BadRun, 599, made_run, web, LOANS, (hands, (STILL,) * 599 + (None,)))
            self.refuses(BadRun, -1, made_run, web, LOANS, (hands, (STILL,) * 601))
            self.assertIs(is_run(web, LOANS, (hands, (STILL,) * 601)), False)

    def test_refusals(self):
        for function in (made_run, moments):
            self.refuses_in_order(function, (WEB, WEB_FAULTS), (LOANS, TERMS_FAULTS), (RUN, RUN_FAULTS))
        self.by_name(made_run, web=WEB, terms=LOANS, thing=RUN)
        self.by_name(is_run, web=WEB, terms=LOANS, thing=RUN)
        self.by_name(moments, web=WEB, terms=LOANS, run=RUN)

    def test_judge_takes_anything(self):
        for thing, _, _ in RUN_FAULTS:
            self.assertIs(is_run(WEB, LOANS, thing), False)
        for thing in ODD:
            self.assertIs(is_run(WEB, LOANS, thing), False)
            self.assertIs(is_run(thing, LOANS, RUN), False)
            self.assertIs(is_run(WEB, thing, RUN), False)
            self.assertIs(is_run(WEB, LOANS, (HANDS, thing)), thing == ())
            self.assertIs(is_run(WEB, LOANS, (thing, ())), False)
            for other in ODD:
                self.assertIs(is_run(WEB, LOANS, (HANDS, ((thing, other, ()),))), thing == other == ())
                self.assertIs(is_run(WEB, LOANS, (HANDS, (((), thing, other),))), thing == other == ())

    def test_fresh(self):
        found = made_run(WEB, LOANS, RUN)
        self.assertIsNot(found, RUN)
        self.assertIsNot(found[0], RUN[0])
        self.assertIsNot(found[1][0][1], RUN[1][0][1])


if __name__ == "__main__":
    unittest.main()
