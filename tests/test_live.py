"""Live runs: [16] and the examples of [16.1]."""

import random
import unittest

from treeandtrip.errors import BadAsks, BadDay, BadSends, BadTells, Lacks, NothingAgain, NothingBack, TooFew, TooMany
from treeandtrip.errors import Untold
from treeandtrip.live import Live
from treeandtrip.lost import lost_paper
from treeandtrip.runs import is_run
from tests.day_samples import ASKS_FAULTS, HANDS, HANDS_FAULTS, SENDS_FAULTS, SOME, STILL, day_by_words, drawn_day
from tests.day_samples import drawn_run, terms_for
from tests.samples import LOANS, ONE, TERMS_FAULTS, WEB, WEB_FAULTS, Case

TWO = (2, ((0, 1, 1),))
QUICK = ("loans", 1, 1, 0)
ASKED = ((), ((0, None),), ())
SENT = ((), (), ((0, 1, 1),))


class Drawn(Case):

    def test_days_taken_undone_and_done_again(self):
        draw = random.Random(160)
        for web in SOME:
            for terms in terms_for(web):
                hands = tuple(draw.randint(0, 4) for _ in range(web[0]))
                self.follow(draw, web, terms, hands)

    def follow(self, draw, web, terms, hands):
        """A live run beside a list of all days and moments, of which so many stand."""
        live = Live(web, terms, hands)
        days, moments, standing = [], [(hands, (), ())], 0
        for _ in range(30):
            what = draw.choice(["take", "take", "take", "back", "back", "again", "again"])
            if what == "take":
                days[standing:] = [drawn_day(draw, web, terms, moments[standing])]
                moments[standing + 1:] = [day_by_words(web, terms, moments[standing], days[-1])]
                standing += 1
                self.same(live.take(days[-1]), moments[standing])
            elif what == "back" and standing == 0:
                self.refuses(NothingBack, 0, live.back)
            elif what == "again" and standing == len(days):
                self.refuses(NothingAgain, 0, live.again)
            else:
                standing += 1 if what == "again" else -1
                self.same(live.again() if what == "again" else live.back(), moments[standing])
            self.same(live.moment(), moments[standing])
            self.same(live.run(), (hands, tuple(days[:standing])))
            self.same(live.paper(), lost_paper(web, terms, moments[standing]))
        self.assertIs(is_run(web, terms, live.run()), True)

    def test_all_back_and_all_again(self):
        for web in SOME[::3]:
            for terms in terms_for(web):
                hands, days = drawn_run(161, web, terms, 12)
                live = Live(web, terms, hands)
                seen = [live.moment()] + [live.take(day) for day in days]
                self.same([live.back() for _ in days], seen[-2::-1])
                self.refuses(NothingBack, 0, live.back)
                self.same(live.run(), (hands, ()))
                self.same([live.again() for _ in days], seen[1:])
                self.refuses(NothingAgain, 0, live.again)
                self.same(live.run(), (hands, days))


class Lives(Case):

    def test_at_first(self):
        live = Live(WEB, LOANS, HANDS)
        self.same([live.moment(), live.run(), live.paper()], [(HANDS, (), ()), (HANDS, ()), None])
        self.refuses(NothingBack, 0, live.back)
        self.refuses(NothingAgain, 0, live.again)

    def test_refusals(self):
        self.refuses_in_order(Live, (WEB, WEB_FAULTS), (LOANS, TERMS_FAULTS), (HANDS, HANDS_FAULTS))

    def test_papers(self):
        live = Live(TWO, QUICK, (1, 1))
        papers = [live.paper()]
        for change in (lambda: live.take(ASKED), live.back, live.again, live.back, lambda: live.take(SENT)):
            change()
            papers.append(live.paper())
        self.same(papers, [None, (0, (0,)), None, (0, (0,)), None, (0, (0,))])
        self.assertIs(Live(ONE, QUICK, (0,)).paper(), None)

    def test_what_was_undone_is_forgotten_by_a_new_day(self):
        live = Live(TWO, QUICK, (3, 3))
        for day in (STILL, SENT, SENT):
            live.take(day)
        live.back()
        live.back()
        self.same(live.take(ASKED), ((2, 3), (), ((0, None),)))
        self.refuses(NothingAgain, 0, live.again)
        self.same(live.run(), ((3, 3), (STILL, ASKED)))
        live.back()
        self.same(live.again(), ((2, 3), (), ((0, None),)))
        self.refuses(NothingAgain, 0, live.again)

    def test_the_same_day_is_a_new_day_too(self):
        live = Live(TWO, QUICK, (3, 3))
        live.take(SENT)
        live.take(SENT)
        live.back()
        live.back()
        live.take(SENT)
        self.refuses(NothingAgain, 0, live.again)

    def at_work(self):
        """A live run at the moment of the samples, with a day undone."""
        live = Live(WEB, ("loans", 2, 3, 1), (6, 1, 2, 4))
        live.take(((), ((2, None), (3, (1, 0))), ((0, 2, 1),)))
        live.take(((), ((3, None), (0, (1, 3))), ()))
        live.take((((0, 2),), ((1, None),), ()))
        live.back()
        return live

    def test_refused_days(self):
        live = self.at_work()
        before = live.moment(), live.run(), live.paper()
        self.same(before[0][2], ((1, None), (2, None), (0, 3)))
        for day in [None, True, 3, "day", (), ((),), ((), ()), ((), (), (), ()), list(STILL), (None, None)]:
            self.refuses(BadDay, -1, live.take, day)
        for tells, what in [
                (None, -1), ([], -1), (((2, 0),), 0), (((0, 4),), 0), (((0, True),), 0), (((0, 1), (0, 1)), 1),
                ((None,), 0)]:
            self.refuses(BadTells, what, live.take, (tells, (), ()))
            self.refuses(BadTells, what, live.take, (tells, None, None))
        for asks, error, what in ASKS_FAULTS:
            self.refuses(error, what, live.take, ((), asks, ()))
        for sends, error, what in SENDS_FAULTS:
            self.refuses(error, what, live.take, ((), (), sends))
        for day, error, what in [
                (STILL, Untold, 0), ((((1, 1),), (), ()), Untold, 0), (((), ((1, None),) * 2, ((1, 0, 2),)), Untold, 0),
                ((((0, 1),), ((1, None),) * 2, ((1, 0, 2),)), Lacks, 1), ((((0, 1),), (), ((1, 0, 2),)), TooFew, 0),
                ((((0, 1),), (), ((0, 1, 1), (3, 2, 4))), TooFew, 1)]:
            self.refuses(error, what, live.take, day)
        for asks, sends, error, what in [
                ((None,), (None,), BadAsks, 0), (None, None, BadAsks, -1), ((), None, BadSends, -1),
                (((1, None),) * 2, (None,), BadSends, 0)]:
            self.refuses(error, what, live.take, (((0, 1),), asks, sends))
            self.refuses(error, what, live.take, ((), asks, sends))
        self.same((live.moment(), live.run(), live.paper()), before)
        self.same(live.again(), ((5, 0, 1, 3), ((0, 2, 1),), ((0, 2), (1, None), (2, None))))

    def test_what_is_refused_leaves_the_days_that_were_undone(self):
        live = Live(TWO, QUICK, (2, 2))
        for day in (SENT, SENT):
            live.take(day)
        self.refuses(NothingAgain, 0, live.again)
        live.back()
        live.back()
        self.refuses(NothingBack, 0, live.back)
        self.refuses(TooFew, 0, live.take, ((), (), ((0, 1, 3),)))
        live.again()
        self.refuses(BadDay, -1, live.take, None)
        self.same(live.again(), ((0, 3), ((0, 1, 1),), ()))

    def test_600_days(self):
        live = Live(TWO, QUICK, (2, 2))
        for _ in range(600):
            live.take(STILL)
        before = live.moment(), live.run()
        self.assertEqual(len(before[1][1]), 600)
        self.refuses(TooMany, 601, live.take, STILL)
        self.refuses(TooMany, 601, live.take, SENT)
        self.refuses(BadDay, -1, live.take, None)
        self.refuses(TooFew, 0, live.take, ((), (), ((0, 1, 3),)))
        self.refuses(Lacks, 0, Live(TWO, QUICK, (0, 0)).take, ASKED)
        self.same((live.moment(), live.run()), before)
        self.refuses(NothingAgain, 0, live.again)
        live.back()
        self.same(live.take(SENT), ((1, 2), ((0, 1, 1),), ()))
        self.refuses(TooMany, 601, live.take, STILL)
        self.assertEqual(len(live.run()[1]), 600)

    def test_a_601st_day_leaves_what_was_undone(self):
        live = Live(ONE, QUICK, (1,))
        for _ in range(600):
            live.take(STILL)
        for _ in range(3):
            live.back()
        for _ in range(3):
            live.again()
        self.refuses(TooMany, 601, live.take, STILL)
        for _ in range(600):
            live.back()
        self.refuses(NothingBack, 0, live.back)
        self.same(live.run(), ((1,), ()))

    def test_what_is_returned_stays(self):
        live = self.at_work()
        told = [live.moment(), live.run(), live.paper()]
        live.take((((0, 1),), (), ()))
        live.back()
        live.back()
        other = self.at_work()
        self.same(told, [other.moment(), other.run(), other.paper()])
        self.assertIsNot(other.moment(), other.moment())
        self.assertIsNot(other.run()[1][0], other.run()[1][0])

    def test_by_name(self):
        live = Live(hands=(1, 1), terms=QUICK, web=TWO)
        self.same(live.take(day=ASKED), ((0, 1), (), ((0, None),)))


if __name__ == "__main__":
    unittest.main()
