"""Hunted houses: [11.2], with [11], [11.1] and the example of [11.3]."""

import random
import unittest

from treeandtrip.days import opened
from treeandtrip.foe import foe_day
from treeandtrip.hunt import hunted
from treeandtrip.kernel import lack_right
from treeandtrip.numbers import first_hands, needed, summands
from treeandtrip.runner import Runner
from treeandtrip.runs import is_run
from treeandtrip.trees import least_tree
from tests.day_samples import HANDS, HANDS_FAULTS, numbers_of, terms_for
from tests.house_samples import HOUSE_FAULTS, STAY, ByWords, busy_house
from tests.samples import DRAWN, FORK, LOANS, ONE, PAIR, TERMS_FAULTS, THREE, WEB, WEB_FAULTS, Case, alike, ring, row
from tests.samples import star

TWO = (2, ((0, 1, 1),))
SHAPES = [ONE, TWO, PAIR, WEB, THREE, FORK, row(4), star(4), ring(5, 2), alike(4, 2)] + DRAWN[3:9]
HUNTED = [LOANS, ("loans", 1, 1, 0), ("loans", 3, 4, 4), ("loans", 2, 4, 0)]
# The plain house of two places a day apart, from the first one, for loans of a day that are told with the ask.
NET = ("-", ("asked", 1), ("told", 1))
PLAIN = (("send", 0, 1, NET), ("send", 1, 0, ("-", 0, NET)))


def hunted_by_words(web, terms, house, hands):
    """The foe's days, one after another, at a house that is executed by the words."""
    words, days = ByWords(web, terms, house, hands), []
    for _ in range(numbers_of(terms)[1] + summands(web, terms)[2]):
        tells, asks = foe_day(web, terms, words.moment)
        places = [place for place, _ in asks]
        at_hand = opened(web, terms, words.moment, tells, ())[0]
        if any(places.count(place) > at_hand[place] for place in places):
            return (hands, tuple(days)), tells, asks
        days.append((tells, asks, words.take(tells, asks)))
    return None


class Hunted(Case):

    def test_by_the_words(self):
        draw = random.Random(112)
        stood = {True: 0, False: 0}
        for web in SHAPES:
            for terms in HUNTED + ([terms_for(web)[-1]] if web[0] > 1 else []):
                enough = first_hands(web, terms, least_tree(web), 0)
                for more in (0, 2, 20):
                    house = draw.choice([(), busy_house(draw, web)])
                    hands = tuple(many + more for many in enough)
                    found = hunted(web, terms, house, hands)
                    self.same(found, hunted_by_words(web, terms, house, hands), (web, terms, house, hands))
                    stood[found is None] += 1
        self.assertTrue(stood[True] > 40 and stood[False] > 40, stood)

    def test_with_fewer_crates_than_needed(self):
        """No house stands then, and what is told shows it."""
        draw = random.Random(113)
        for web in SHAPES:
            for terms in HUNTED + ([terms_for(web)[-1]] if web[0] > 1 else []):
                places = [draw.randrange(web[0]) for _ in range(needed(web, terms) - 1)]
                hands = tuple(places.count(place) for place in range(web[0]))
                house = busy_house(draw, web)
                run, tells, asks = hunted(web, terms, house, hands)
                self.assertLess(len(run[1]), numbers_of(terms)[1] + summands(web, terms)[2])
                self.assertIs(is_run(web, terms, run), True)
                self.assertIs(lack_right(web, terms, run, tells, asks), True)
                self.follow(web, terms, house, (run, tells, asks))

    def follow(self, web, terms, house, found):
        """Each day is the foe's, and what was sent is what a runner sends."""
        (hands, days), tells, asks = found
        runner = Runner(web, terms, house, hands)
        for day in days:
            self.same(foe_day(web, terms, runner.moment()), day[:2])
            self.same(runner.take(*day[:2]), day[2])
        self.same(foe_day(web, terms, runner.moment()), (tells, asks))

    def test_the_example(self):
        quick = ("loans", 1, 1, 0)
        self.same(hunted(TWO, quick, (), (1, 1)), (((1, 1), (((), ((0, None),), ()),)), ((0, 1),), ((0, None),)))
        self.assertIs(hunted(TWO, quick, (), (2, 1)), None)

    def test_houses_that_stand(self):
        for k in (1, 2, 20):
            terms = ("loans", k, 1, 1)
            self.assertIs(hunted(TWO, terms, PLAIN, (k, k)), None)
            run, _, asks = hunted(TWO, terms, PLAIN, (2 * k - 1, 0))
            self.same([run, len(asks)], [((2 * k - 1, 0), ()), 1])
        for web in SHAPES:
            for terms in HUNTED:
                self.assertIs(hunted(web, terms, (), (1000,) * web[0]), None)

    def test_one_place(self):
        for terms in (("loans", 1, 1, 0), ("loans", 2, 3, 0), ("loans", 2, 3, 3), ("loans", 20, 200, 7)):
            k, longest, _ = terms[1:]
            self.assertIs(hunted(ONE, terms, (), (k * longest,)), None)
            run, tells, asks = hunted(ONE, terms, (), (k * longest - 1,))
            self.assertEqual([len(run[1]), len(asks)], [longest - 1, k])

    def test_no_crate_at_all(self):
        self.same(hunted(WEB, LOANS, (), (0, 0, 0, 0)), (((0, 0, 0, 0), ()), (), ((0, None),)))

    def test_a_lack_on_the_last_day_and_none_behind_it(self):
        """The house sends all crates away on one day, so that it lacks on the next one: L + M is 7 here."""
        far, terms = (2, ((0, 1, 4),)), ("loans", 1, 3, 0)
        for day in range(9):
            house = (("if", ("=", ("day",), day), (("send", 0, 1, 99), ("send", 1, 0, 99)), ()),)
            found = hunted(far, terms, house, (20, 20))
            self.assertEqual(None if found is None else len(found[0][1]), day + 1 if day < 6 else None)

    def test_refusals(self):
        self.refuses_in_order(
            hunted, (WEB, WEB_FAULTS), (LOANS, TERMS_FAULTS), ((STAY,), HOUSE_FAULTS), (HANDS, HANDS_FAULTS))

    def test_by_name(self):
        self.by_name(hunted, web=TWO, terms=("loans", 1, 1, 0), house=PLAIN, hands=(1, 1))


if __name__ == "__main__":
    unittest.main()
