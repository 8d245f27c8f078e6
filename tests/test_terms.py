"""Terms: [4], [4.1] and [4.2]."""

import unittest

from treeandtrip.errors import BadTerms
from treeandtrip.terms import is_terms, longest_loan, made_terms, most_asks, notice
from tests.samples import BIG, FORK, LOANS, NO_NUMBERS, ODD, ONE, ORDINARY, PAIR, TERMS_FAULTS, TRIPS, WEB, WEB_FAULTS
from tests.samples import Case

ASKED = (most_asks, longest_loan, notice)
PAIR_TRIPS = ("trips", 20, ((0, 1), (200, 0)))


def table(n, days):
    return tuple(tuple(0 if a == b else days(a, b) for b in range(n)) for a in range(n))


def with_item(rows, a, b, item):
    """A table with one item changed."""
    return tuple(
        tuple(item if (p, q) == (a, b) else old for q, old in enumerate(line)) for p, line in enumerate(rows))


ROWS = TRIPS[2]
TABLE_FAULTS = [("trips", 2, thing) for thing in NO_NUMBERS + [
    0, "abc", (ROWS[0],), ROWS[:2], ROWS + (ROWS[0],), list(ROWS)]]
TABLE_FAULTS += [("trips", 2, (ROWS[0], line, ROWS[2])) for line in [
    None, 1, "205", (), (2, 0), (2, 0, 5, 1), [2, 0, 5], ((2, 0, 5),)]]
TABLE_FAULTS += [("trips", 2, with_item(ROWS, a, b, item)) for a in range(3) for b in range(3)
                 for item in NO_NUMBERS + [-1, 201, 10 ** 40, 1 if a == b else 0]]
ALL_FORK_FAULTS = TERMS_FAULTS + [(thing, BadTerms, 2) for thing in TABLE_FAULTS]
ALL_FORK_FAULTS += [(("trips", k, ROWS), BadTerms, 1) for k in NO_NUMBERS + [0, -1, 21, 10 ** 40]]
ALL_FORK_FAULTS += [(("trips", 0, 0), BadTerms, 1), (("trips", True, ROWS[:2]), BadTerms, 1)]


class MadeTerms(Case):

    def test_loans(self):
        for web in (ONE, PAIR, WEB, BIG):
            for k in (1, 2, 20):
                for days in (1, 2, 17, 200):
                    for told in {0, 1, days // 2, days}:
                        terms = ("loans", k, days, told)
                        self.same(made_terms(web, terms), terms)
                        self.assertIs(is_terms(web, terms), True)
                        self.same([function(web, terms) for function in ASKED], [k, days, told])

    def test_trips(self):
        self.same(made_terms(FORK, TRIPS), TRIPS)
        self.same([function(FORK, TRIPS) for function in ASKED], [2, 5, 5])
        self.same([function(PAIR, PAIR_TRIPS) for function in ASKED], [20, 200, 200])
        self.same([function(PAIR, ("trips", 1, ((0, 1), (1, 0)))) for function in ASKED], [1, 1, 1])
        great = ("trips", 3, table(40, lambda a, b: 1 + (7 * a + 3 * b) % 150))
        self.same(made_terms(BIG, great), great)
        self.same([function(BIG, great) for function in ASKED], [3, 150, 150])

    def test_the_greatest_anywhere(self):
        for a in range(4):
            for b in range(4):
                if a != b:
                    rows = table(4, lambda p, q: 9 if (p, q) == (a, b) else 2)
                    self.same([function(WEB, ("trips", 1, rows)) for function in ASKED], [1, 9, 9])

    def test_faults(self):
        for web, faults in ((WEB, TERMS_FAULTS), (FORK, ALL_FORK_FAULTS)):
            for thing, error, what in faults:
                self.refuses(error, what, made_terms, web, thing)
                self.assertIs(is_terms(web, thing), False)

    def test_trips_want_two_places(self):
        for k, rows in ((1, ((0,),)), (0, ((0,),)), (1, ()), (1, None), (True, 5)):
            self.refuses(BadTerms, 0, made_terms, ONE, ("trips", k, rows))
            self.assertIs(is_terms(ONE, ("trips", k, rows)), False)
        self.refuses(BadTerms, -1, made_terms, ONE, ("trips", 1, ((0,),), 0))

    def test_tables_of_another_web(self):
        self.refuses(BadTerms, 2, made_terms, WEB, TRIPS)
        self.refuses(BadTerms, 2, made_terms, PAIR, TRIPS)

    def test_refusals(self):
        for function in (made_terms,) + ASKED:
            self.refuses_in_order(function, (FORK, WEB_FAULTS), (TRIPS, ALL_FORK_FAULTS))
            self.refuses_in_order(function, (WEB, WEB_FAULTS), (LOANS, TERMS_FAULTS))

    def test_judge_takes_anything(self):
        for thing in ODD:
            self.assertIs(is_terms(WEB, thing), False)
            self.assertIs(is_terms(thing, LOANS), False)
            for other in ODD:
                self.assertIs(is_terms(thing, other), False)
                self.assertIs(is_terms(WEB, ("loans", thing, other, 1)), False)
                self.assertIs(is_terms(WEB, ("trips", 1, (thing, other, thing, other))), False)
        for web, _, _ in WEB_FAULTS:
            self.assertIs(is_terms(web, LOANS), False)
        for web in ORDINARY:
            self.assertIs(is_terms(web, LOANS), True)

    def test_fresh(self):
        self.assertIsNot(made_terms(FORK, TRIPS), TRIPS)
        self.assertIsNot(made_terms(FORK, TRIPS)[2], TRIPS[2])

    def test_by_name(self):
        for function in (made_terms, is_terms):
            self.by_name(function, web=FORK, thing=TRIPS)
        for function in ASKED:
            self.by_name(function, web=FORK, terms=TRIPS)
            self.by_name(function, web=WEB, terms=LOANS)


if __name__ == "__main__":
    unittest.main()
