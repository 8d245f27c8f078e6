"""Small games: [15] and [15.1], of which each is played here to its end."""

import unittest
from itertools import product

from treeandtrip.errors import BadMany, TooMany
from treeandtrip.games import keepable, small
from treeandtrip.numbers import needed
from tests.day_samples import SOME, terms_for
from tests.samples import BIG, FORK, LOANS, NO_NUMBERS, ONE, PAIR, TERMS_FAULTS, TRIPS, WEB, WEB_FAULTS, Case

PAIRS = [(2, ((0, 1, days),)) for days in (1, 2, 3, 200)]
LOANS_OF_ONE = [("loans", 1, days, told) for days in (1, 2, 3, 4, 5, 200) for told in range(min(days, 5) + 1)]
SMALL = [(web, terms) for web in [ONE] + PAIRS[:2] for terms in LOANS_OF_ONE if needed(web, terms) <= 4]


class Game:
    """The game of [15.1]: which states ahead of a day a house can go on from for ever.

    A state is (hands, empties, loans): rising tuples of (days, place) of the empties, and of (days, home) or
    (days, None) of the loans, in their order.
    """

    def __init__(self, web, terms):
        self.n, ways = web
        self.days = ways[0][2] if ways else None
        _, _, self.longest, self.told = terms

    def comings(self, state):
        """What the asker can make of a state by what it tells: the loans that must be told, each to any place."""
        hands, empties, loans = state
        due = [at for at, (days, home) in enumerate(loans) if home is None and days == self.told]
        for homes in product(range(self.n), repeat=len(due)):
            told = list(loans)
            for at, home in zip(due, homes):
                told[at] = (self.told, home)
            there = list(hands)
            for days, place in list(empties) + told:
                if days == 0:
                    there[place] += 1
            yield tuple(there), tuple(item for item in empties if item[0]), tuple(item for item in told if item[0])

    def asks(self, state):
        """What the asker can make of a state by its ask, None for one that lacks."""
        yield state
        hands, empties, loans = state
        for place in range(self.n):
            if not hands[place]:
                yield None
                return
            left = tuple(many - (at == place) for at, many in enumerate(hands))
            backs = range(self.n) if self.told == self.longest else [None]
            for home in backs:
                yield left, empties, loans + ((self.longest, home),)

    def sends(self, state):
        """The states ahead of the next day that the house can make of a state by its sends."""
        hands, empties, loans = state
        lent = tuple((days - 1, home) for days, home in loans)
        going = [range(many + 1) if self.days else (0,) for many in hands]
        for gone in product(*going):
            left = tuple(many - less for many, less in zip(hands, gone))
            sent = [(self.days, 1 - place) for place, many in enumerate(gone) for _ in range(many)]
            yield left, tuple(sorted((days - 1, place) for days, place in list(empties) + sent)), lent

    def amid(self, state):
        """All states amid the day, and None if the asker can make the house lack."""
        return {asked for come in self.comings(state) for asked in self.asks(come)}

    def kept(self, crates):
        """Whether some first hands go on for ever: states are struck off until none falls to the asker."""
        first = [hands for hands in product(range(crates + 1), repeat=self.n) if sum(hands) == crates]
        ways_on, waiting = {}, [(hands, (), ()) for hands in first]
        while waiting:
            state = waiting.pop()
            if state not in ways_on:
                amid = self.amid(state)
                ways_on[state] = None if None in amid else [set(self.sends(each)) for each in amid]
                waiting += [after for choice in ways_on[state] or [] for after in choice]
        good = {state for state, choices in ways_on.items() if choices is not None}
        while True:
            still = {state for state in good if all(choice & good for choice in ways_on[state])}
            if still == good:
                return any((hands, (), ()) in good for hands in first)
            good = still


class Small(Case):

    def test_small(self):
        for web in SOME + PAIRS + [BIG]:
            for terms in terms_for(web) + LOANS_OF_ONE:
                wanted = terms[0] == "loans" and terms[1] == 1 and web[0] <= 2 and needed(web, terms) <= 4
                wanted = wanted and all(days <= 2 for _, _, days in web[1])
                self.assertIs(small(web, terms), wanted)

    def test_edges(self):
        for web, terms, wanted in [
                (ONE, ("loans", 1, 4, 0), True), (ONE, ("loans", 1, 4, 4), True), (ONE, ("loans", 1, 5, 5), False),
                (ONE, ("loans", 2, 1, 0), False), (PAIRS[0], ("loans", 1, 2, 0), True),
                (PAIRS[1], ("loans", 1, 2, 2), True), (PAIRS[0], ("loans", 1, 3, 3), True),
                (PAIRS[0], ("loans", 1, 4, 4), False),
                (PAIRS[1], ("loans", 1, 1, 1), True), (PAIRS[1], ("loans", 1, 1, 0), False),
                (PAIRS[1], ("loans", 1, 2, 1), False), (PAIRS[2], ("loans", 1, 1, 1), False),
                (PAIRS[0], ("trips", 1, ((0, 1), (1, 0))), False), (FORK, TRIPS, False),
                ((3, ((0, 1, 1), (0, 2, 1))), ("loans", 1, 1, 1), False)]:
            self.assertIs(small(web, terms), wanted, (web, terms))

    def test_refusals(self):
        self.refuses_in_order(small, (WEB, WEB_FAULTS), (LOANS, TERMS_FAULTS))
        self.by_name(small, web=PAIRS[0], terms=LOANS)


class Keepable(Case):

    def test_the_game_itself(self):
        self.assertEqual(len(SMALL), 14 + 8 + 2)
        for web, terms in SMALL:
            game = Game(web, terms)
            for crates in range(6):
                self.assertIs(keepable(web, terms, crates), game.kept(crates), (web, terms, crates))

    def test_as_many_as_needed(self):
        for web, terms in SMALL:
            for crates in range(6):
                self.assertIs(keepable(web, terms, crates), crates >= needed(web, terms))

    def test_refusals(self):
        faults = [(thing, BadMany, 0) for thing in NO_NUMBERS + [-1, 6, 10 ** 40]]
        self.refuses_in_order(keepable, (PAIRS[0], WEB_FAULTS), (("loans", 1, 2, 1), TERMS_FAULTS), (3, faults))
        self.by_name(keepable, web=PAIRS[0], terms=LOANS, crates=4)

    def test_what_is_not_small_comes_last(self):
        for web, terms, what in [
                (WEB, LOANS, 4), (PAIR, LOANS, 2), (ONE, ("loans", 1, 5, 0), 1), (FORK, TRIPS, 3),
                (BIG, ("loans", 1, 1, 1), 40), (PAIRS[0], ("trips", 1, ((0, 1), (1, 0))), 2)]:
            for crates in range(6):
                self.refuses(TooMany, what, keepable, web, terms, crates)
            for crates in (True, -1, 6, None):
                self.refuses(BadMany, 0, keepable, web, terms, crates)


if __name__ == "__main__":
    unittest.main()
