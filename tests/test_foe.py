"""The foe: [11], [11.1] and the example of [11.3]."""

import random
import unittest

from treeandtrip.days import after_day, opened
from treeandtrip.errors import Lacks
from treeandtrip.foe import foe_day
from treeandtrip.kernel import lack_right
from treeandtrip.lost import lost_paper
from treeandtrip.moments import first_moment
from treeandtrip.numbers import first_hands, needed, summands
from treeandtrip.trees import least_tree
from tests.day_samples import MOMENT, MOMENT_FAULTS, SOME, TWO_ASKS, amid_by_words, days_by, drawn_moment, drawn_sends
from tests.day_samples import numbers_of, terms_for
from tests.samples import DRAWN, FORK, LOANS, ONE, PAIR, TERMS_FAULTS, THREE, TRIPS, WEB, WEB_FAULTS, Case, alike, ring
from tests.samples import row, star


def foe_by_words(web, terms, moment):
    """[11], word by word: each ask is put behind those made so far, and the day is opened anew."""
    k, longest, told = numbers_of(terms)
    paper = lost_paper(web, terms, moment)
    far = [place for place in range(web[0]) if place not in paper[1]][0] if paper else 0
    let = paper[1] if paper else tuple(range(web[0]))
    if paper is None and terms[0] == "trips":
        pairs = [(a, b) for a in range(web[0]) for b in range(web[0])]
        a, b = [pair for pair in pairs if terms[2][pair[0]][pair[1]] == longest][0]
        let, far = (a,), b
    tells = tuple((index, far) for index, loan in enumerate(moment[2]) if loan == (told, None))
    asks = ()
    while len(asks) < k:
        hands = amid_by_words(web, terms, moment, tells, asks)[0]
        most = max(hands[place] for place in let)
        place = [place for place in let if hands[place] == most][0]
        back = (longest, far) if terms[0] == "loans" else (terms[2][place][far], far)
        asks += ((place, None if told < longest else back),)
        if most == 0:
            break
    return tells, asks


class FoeDay(Case):

    def test_by_the_words(self):
        draw = random.Random(110)
        told = set()
        for web in SOME:
            for terms in terms_for(web):
                enough = first_hands(web, terms, least_tree(web), 0)
                for moment in (drawn_moment(draw, web, terms, 2), drawn_moment(draw, web, terms), (enough, (), ())):
                    tells, asks = foe_day(web, terms, moment)
                    self.same((tells, asks), foe_by_words(web, terms, moment))
                    told.add((terms[0], lost_paper(web, terms, moment) is None, tells == ()))
        self.assertEqual(len(told), 6)

    def test_it_can_be_asked(self):
        """Nothing that the foe tells or asks is refused; at most its last ask lacks."""
        draw = random.Random(111)
        lacked = set()
        for web in SOME:
            for terms in terms_for(web):
                moment = drawn_moment(draw, web, terms, 2)
                tells, asks = foe_day(web, terms, moment)
                self.assertTrue(1 <= len(asks) <= terms[1])
                try:
                    opened(web, terms, moment, tells, asks)
                    self.assertEqual(len(asks), terms[1])
                    lacked.add(False)
                except Lacks as lack:
                    self.assertEqual(lack.what, len(asks) - 1)
                    lacked.add(True)
        self.assertEqual(lacked, {True, False})

    def test_the_example(self):
        quick = ("loans", 1, 1, 0)
        self.same(foe_day(PAIR[:1] + (((0, 1, 1),),), quick, ((1, 1), (), ())), ((), ((0, None),)))
        moment = ((0, 1), (), ((0, None),))
        self.same(lost_paper((2, ((0, 1, 1),)), quick, moment), (0, (0,)))
        self.same(foe_day((2, ((0, 1, 1),)), quick, moment), (((0, 1),), ((0, None),)))

    def test_tells(self):
        moment = ((9, 9, 9, 9), (), ((0, 2), (1, None), (1, None), (0, 0), (2, None)))
        self.same(foe_day(WEB, TWO_ASKS, moment)[0], ((1, 0), (2, 0)))
        lost = ((0, 9, 9, 9),) + moment[1:]
        self.same(lost_paper(WEB, TWO_ASKS, lost), (0, (0,)))
        self.same(foe_day(WEB, TWO_ASKS, lost), (((1, 1), (2, 1)), ((0, None), (0, None))))

    def test_which_place(self):
        terms = ("loans", 5, 3, 1)
        asks = tuple((place, None) for place in (2, 2, 3, 0, 1))
        self.same(foe_day(WEB, terms, ((60, 60, 62, 61), (), ())), ((), asks))
        # What comes on this day is at hand: 62 at place 1.
        asks = tuple((place, None) for place in (1, 1, 0, 1, 2))
        self.same(foe_day(WEB, terms, ((60, 58, 60, 60), ((0, 1, 4),), ())), ((), asks))
        self.same(foe_day(ONE, terms, ((2,), (), ())), ((), ((0, None),) * 3))
        self.same(foe_day(ONE, terms, ((0,), (), ())), ((), ((0, None),)))
        self.same(foe_day(ONE, terms, ((9,), (), ((1, None),))), (((0, 0),), ((0, None),) * 5))

    def test_the_last_ask_lacks(self):
        terms = ("loans", 5, 3, 1)
        self.same(foe_day(WEB, terms, ((60, 2, 60, 60), (), ())), ((), ((1, None),) * 3))
        self.same(foe_day(WEB, terms, ((60, 4, 60, 60), (), ()))[1], ((1, None),) * 5)
        # With one more there is no paper, and the foe asks wherever there are most.
        self.same(foe_day(WEB, terms, ((60, 5, 60, 60), (), ()))[1], tuple((place, None) for place in (0, 2, 3, 0, 2)))

    def test_notice_as_long_as_the_loans(self):
        terms = ("loans", 2, 3, 3)
        self.same(foe_day(WEB, terms, ((50, 50, 50, 50), (), ())), ((), ((0, (3, 0)), (1, (3, 0)))))
        self.same(foe_day(WEB, terms, ((0, 50, 50, 50), (), ((0, 0),))), ((), ((0, (3, 1)), (0, (3, 1)))))
        self.same(foe_day(WEB, terms, ((0, 50, 50, 50), (), ((1, 0),))), ((), ((0, (3, 1)),)))

    def test_trips(self):
        enough, lost = ((8, 4, 8), (), ()), ((0, 40, 40), (), ((0, 0),) * 3)
        self.assertIs(lost_paper(FORK, TRIPS, enough), None)
        self.same(foe_day(FORK, TRIPS, enough), ((), ((1, (5, 2)), (1, (5, 2)))))
        self.same(lost_paper(FORK, TRIPS, lost), (1, (0,)))
        self.same(foe_day(FORK, TRIPS, lost), ((), ((0, (2, 1)), (0, (2, 1)))))
        # The first of several pairs with equally many days.
        table = ((0, 1, 4), (4, 0, 4), (4, 4, 0))
        self.same(foe_day(FORK, ("trips", 1, table), ((90, 90, 90), (), ()))[1], ((0, (4, 2)),))

    def test_refusals(self):
        self.refuses_in_order(foe_day, (WEB, WEB_FAULTS), (TWO_ASKS, TERMS_FAULTS), (MOMENT, MOMENT_FAULTS))
        self.by_name(foe_day, web=WEB, terms=TWO_ASKS, moment=MOMENT)


def lazy(draw, web, terms, amid):
    return ()


def aimless(draw, web, terms, amid):
    return drawn_sends(draw, web, amid[0])


def levelling(draw, web, terms, amid):
    """From each place to each near one half of what it has more."""
    left = list(amid[0])
    sends = []
    for u, v in sorted(days_by(web)):
        many = (left[u] - amid[0][v]) // 2
        if many > 0:
            left[u] -= many
            sends.append((u, v, many))
    return tuple(sends)


def wary(draw, web, terms, amid):
    """Of some sends those behind which no paper is found, or one that gives the most time."""
    choices = [lazy(draw, web, terms, amid), levelling(draw, web, terms, amid)]
    choices += [aimless(draw, web, terms, amid) for _ in range(4)]
    moment = (amid[0], tuple(amid[1]), amid[2])
    ranked = []
    for index, sends in enumerate(choices):
        paper = lost_paper(web, terms, evening(web, moment, sends))
        ranked.append((-1000 if paper is None else -paper[0], index))
    return choices[min(ranked)[1]]


def evening(web, amid, sends):
    """The moment behind these sends, from what is amid the day."""
    hands, due = list(amid[0]), {(days, place): many for days, place, many in amid[1]}
    for u, v, many in sends:
        hands[u] -= many
        days = days_by(web)[u, v]
        due[days, v] = due.get((days, v), 0) + many
    empties = tuple((days - 1, place, due[days, place]) for days, place in sorted(due))
    return tuple(hands), empties, tuple((days - 1, home) for days, home in amid[2])


HOUSES = (lazy, aimless, levelling, wary)
SHAPES = [PAIR, (2, ((0, 1, 1),)), WEB, THREE, FORK, row(4), star(4), ring(5, 2), alike(4, 2)] + DRAWN[3:9]
HUNTED = [LOANS, ("loans", 1, 1, 0), ("loans", 3, 4, 4), ("loans", 2, 4, 0)]


class WhatTheFoeForces(Case):

    def days_to_a_lack(self, draw, web, terms, moment, house, most):
        """How many days go by, up to the one that lacks, if the foe asks each day."""
        run = []
        for day in range(1, most + 1):
            tells, asks = foe_day(web, terms, moment)
            try:
                amid = opened(web, terms, moment, tells, asks)
            except Lacks as lack:
                self.assertEqual(lack.what, len(asks) - 1)
                return day, run, tells, asks
            run.append((tells, asks, house(draw, web, terms, amid)))
            moment = after_day(web, terms, moment, run[-1])
        return self.fail((web, terms, moment, house.__name__))

    def test_with_fewer_crates_than_needed(self):
        draw = random.Random(113)
        for web in SHAPES:
            for terms in HUNTED + ([terms_for(web)[-1]] if web[0] > 1 else []):
                most = numbers_of(terms)[1] + summands(web, terms)[2]
                for house in HOUSES:
                    hands = self.one_too_few(draw, web, terms)
                    found = self.days_to_a_lack(draw, web, terms, first_moment(web, hands), house, most)
                    _, days, tells, asks = found
                    self.assertIs(lack_right(web, terms, (hands, tuple(days)), tells, asks), True)

    def one_too_few(self, draw, web, terms):
        """The first hands of a good house less one crate, or as many crates anywhere."""
        if draw.random() < 0.6:
            hands = list(first_hands(web, terms, least_tree(web), draw.randrange(web[0])))
            hands[draw.choice([place for place, many in enumerate(hands) if many])] -= 1
            return tuple(hands)
        places = [draw.randrange(web[0]) for _ in range(needed(web, terms) - 1)]
        return tuple(places.count(place) for place in range(web[0]))

    def test_from_a_lost_moment(self):
        draw = random.Random(114)
        seen = set()
        for web in SHAPES:
            for terms in HUNTED + ([terms_for(web)[-1]] if web[0] > 1 else []):
                for most in (2, 6, 9):
                    moment = drawn_moment(draw, web, terms, most)
                    paper = lost_paper(web, terms, moment)
                    if paper is not None:
                        seen.add(paper[0])
                        for house in HOUSES:
                            self.days_to_a_lack(draw, web, terms, moment, house, paper[0] + 1)
        self.assertTrue({0, 1, 2} <= seen, seen)


if __name__ == "__main__":
    unittest.main()
