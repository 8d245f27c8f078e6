"""Lost moments: [10] and [10.1]."""

import random
import unittest

from treeandtrip.clusters import clusters
from treeandtrip.errors import BadRun
from treeandtrip.kernel import lost_right
from treeandtrip.lost import doomed, lost_paper
from treeandtrip.moments import first_moment
from treeandtrip.numbers import first_hands, needed
from treeandtrip.runs import moments
from treeandtrip.trees import least_tree
from tests.day_samples import HANDS, MOMENT, MOMENT_FAULTS, RUN, RUN_FAULTS, SOME, STILL, TWO_ASKS, drawn_moment
from tests.day_samples import drawn_run, terms_for
from tests.samples import BIG, FORK, LOANS, ONE, PAIR, TERMS_FAULTS, TRIPS, WEB, WEB_FAULTS, Case, alike, ring, row
from tests.samples import star


def paper_by_words(web, terms, moment):
    """The least h for which any cluster, gone through in the order of lots, has a lost paper."""
    for h in range(201):
        for lot in clusters(web):
            if lost_right(web, terms, moment, lot, h):
                return h, lot
    return None


class LostPaper(Case):

    def test_by_the_words(self):
        draw = random.Random(100)
        told = set()
        for web in SOME[:12]:
            for terms in terms_for(web):
                enough = first_hands(web, terms, least_tree(web), web[0] - 1)
                fewer = tuple(max(0, many - draw.choice([0, 0, 0, 1])) for many in enough)
                for moment in (drawn_moment(draw, web, terms, 2), drawn_moment(draw, web, terms), (fewer, (), ())):
                    wanted = paper_by_words(web, terms, moment)
                    self.same(lost_paper(web, terms, moment), wanted)
                    told.add(wanted and (wanted[0] > 0, len(wanted[1]) > 1))
        self.assertIn(None, told)
        self.assertIn((True, True), told)
        self.assertIn((True, False), told)

    def test_no_papers_with_enough_crates(self):
        for web in SOME + [row(40), BIG]:
            for terms in (LOANS, ("loans", 7, 9, 0)):
                hands = first_hands(web, terms, least_tree(web), 0)
                self.assertIs(lost_paper(web, terms, first_moment(web, hands)), None)

    def test_one_place(self):
        for terms in (LOANS, ("loans", 20, 200, 0), ("loans", 1, 1, 1)):
            for hands in ((0,), (1,), (200000,)):
                self.assertIs(lost_paper(ONE, terms, (hands, (), ())), None)

    def test_the_least_h_and_then_the_first_lot(self):
        def paper(*hands):
            return lost_paper(WEB, LOANS, first_moment(WEB, hands))

        self.same(paper(0, 0, 0, 0), (0, (0,)))
        self.same(paper(1, 0, 0, 0), (0, (1,)))
        self.same(paper(1, 1, 1, 0), (0, (3,)))
        # Enough for single places within 0 days, but not within 1; (0, 1) wants 3 within 1 day.
        self.same(paper(1, 1, 1, 9), (1, (2,)))
        self.same(paper(1, 1, 2, 9), (1, (0, 1)))
        # (0, 1, 2) wants 3 + h + 1 with h from 1 to 3, and (3,) wants h + 1 with h from 0 to 3.
        self.same(paper(2, 1, 2, 3), (2, (0, 1, 2)))
        self.same(paper(2, 1, 2, 4), (2, (0, 1, 2)))
        self.same(paper(2, 2, 2, 4), (3, (0, 1, 2)))
        self.same(paper(2, 2, 2, 3), (3, (3,)))
        self.same(paper(3, 2, 2, 3), (3, (3,)))
        self.same(paper(3, 2, 2, 4), None)

    def test_the_days_of_what_comes(self):
        far = (2, ((0, 1, 200),))
        for days in (0, 1, 198, 199):
            moment = ((days, 500), ((days, 0, 500),), ())
            self.assertIs(lost_paper(far, LOANS, moment), None)
            if days:
                self.same(lost_paper(far, LOANS, ((days - 1, 500), ((days, 0, 500),), ())), (days - 1, (0,)))
        self.same(lost_paper(far, LOANS, ((198, 500), ((199, 0, 1),), ())), (198, (0,)))
        self.same(lost_paper(far, LOANS, ((199, 500), (), ((0, 0),))), None)
        self.same(lost_paper(far, LOANS, ((199, 500), (), ((1, None),))), (199, (0,)))

    def test_k_asks(self):
        for k in (1, 2, 20):
            terms = ("loans", k, 1, 1)
            for hands, wanted in [
                    ((k - 1, 9 * k), (0, (0,))), ((7 * k, 7 * k), None), ((7 * k - 1, 9 * k), (6, (0,)))]:
                self.same(lost_paper(PAIR, terms, (hands, (), ())), wanted)

    def test_refusals(self):
        self.refuses_in_order(lost_paper, (WEB, WEB_FAULTS), (TWO_ASKS, TERMS_FAULTS), (MOMENT, MOMENT_FAULTS))
        self.by_name(lost_paper, web=WEB, terms=TWO_ASKS, moment=MOMENT)
        self.by_name(lost_paper, web=FORK, terms=TRIPS, moment=((1, 1, 1), (), ()))


class Doomed(Case):

    def test_by_the_words(self):
        told = set()
        for seed, web in enumerate(SOME):
            for terms in terms_for(web):
                hands = tuple(many + seed % 3 for many in first_hands(web, terms, least_tree(web), 0))
                run = drawn_run(seed, web, terms, 8, hands)
                papers = [lost_paper(web, terms, moment) for moment in moments(web, terms, run)]
                found = [(index,) + paper for index, paper in enumerate(papers) if paper is not None]
                self.same(doomed(web, terms, run), found[0] if found else None)
                told.add(found[0][0] if found else None)
        self.assertTrue({None, 1, 2, 3} <= told, told)

    def test_edges(self):
        self.same(doomed(WEB, LOANS, ((13, 0, 0, 0), ())), (0, 0, (1,)))
        self.same(doomed(WEB, LOANS, ((13, 0, 0, 0), (STILL,) * 600)), (0, 0, (1,)))
        self.assertIs(doomed(WEB, LOANS, (HANDS, (STILL,) * 600)), None)
        self.assertIs(doomed(ONE, LOANS, ((0,), (STILL,) * 600)), None)
        # The last moment is looked at, too.
        late = (STILL,) * 599 + (((), ((0, None),), ()),)
        self.same(doomed(PAIR, ("loans", 1, 1, 0), ((7, 7), late)), (600, 6, (0,)))
        self.assertIs(doomed(PAIR, ("loans", 1, 1, 0), ((8, 7), late)), None)

    def test_refusals(self):
        self.refuses_in_order(doomed, (WEB, WEB_FAULTS), (LOANS, TERMS_FAULTS), (RUN, RUN_FAULTS))
        # A bad day behind a lost moment is refused all the same.
        for index in (0, 1, 599):
            self.refuses(BadRun, index, doomed, WEB, LOANS, ((13, 0, 0, 0), (STILL,) * index + (None,)))
        self.by_name(doomed, web=WEB, terms=LOANS, run=RUN)

    def test_houses_that_never_lack(self):
        """[0.3] (d): with as many crates as needed, and sends by hand, no moment of the document's example is lost."""
        self.assertEqual(sum(HANDS), needed(WEB, LOANS))
        self.assertIs(doomed(WEB, LOANS, RUN), None)
        for web in (ring(5), star(5), alike(4)):
            hands = first_hands(web, LOANS, least_tree(web), 0)
            self.assertIs(doomed(web, LOANS, (hands, (STILL,) * 20)), None)


if __name__ == "__main__":
    unittest.main()
