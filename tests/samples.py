"""Webs, wrong values and slow but plain ways of reckoning, which the tests share."""

import random
import unittest
from functools import cache
from itertools import combinations

from treeandtrip.errors import BadLot, BadTerms, BadTree, BadWay, BadWeb, Parted, Refused

ONE = (1, ())
PAIR = (2, ((0, 1, 7),))
WEB = (4, ((0, 1, 1), (0, 2, 3), (1, 2, 2), (2, 3, 4)))
LEAST = ((0, 1, 1), (1, 2, 2), (2, 3, 4))
OTHER = ((0, 1, 1), (0, 2, 3), (2, 3, 4))
THREE = (3, ((0, 1, 1), (0, 2, 1), (1, 2, 1)))
LOANS = ("loans", 1, 3, 1)
FORK = (3, ((0, 1, 2), (0, 2, 3)))
TRIPS = ("trips", 2, ((0, 2, 3), (2, 0, 5), (3, 4, 0)))


def full(n, days):
    """The web of n places with all ways, with the days that a function tells."""
    return n, tuple((u, v, days(u, v)) for u, v in combinations(range(n), 2))


def row(n):
    return n, tuple((p, p + 1, 1 + p * 37 % 200) for p in range(n - 1))


def star(n):
    return n, tuple((0, p, 1 + p * 53 % 200) for p in range(1, n))


def ring(n, days=5):
    return n, tuple(sorted([(p, p + 1, days) for p in range(n - 1)] + [(0, n - 1, days)]))


def alike(n, days=9):
    return full(n, lambda u, v: days)


BIG = full(40, lambda u, v: 1 + (u * u * 17 + v * v * 13 + u * v) % 200)
BIG_ALIKE = alike(40, 200)


def drawn_web(seed, most_places=6, most_days=5):
    """A web that hangs together, drawn from a seed."""
    draw = random.Random(seed)
    n = draw.randint(1, most_places)
    chance = draw.random()
    pairs = {(draw.randrange(p), p) for p in range(1, n)}
    pairs |= {pair for pair in combinations(range(n), 2) if draw.random() < chance}
    order = list(range(n))
    draw.shuffle(order)
    named = {tuple(sorted((order[u], order[v]))) for u, v in pairs}
    return n, tuple((u, v, draw.randint(1, most_days)) for u, v in sorted(named))


DRAWN = [drawn_web(seed) for seed in range(60)]
ORDINARY = [ONE, PAIR, WEB, THREE, FORK, row(6), star(6), ring(6), alike(5)] + DRAWN


def reached(ways, place):
    """The rising tuple of the places that a place hangs together with by these ways."""
    found = {place}
    while True:
        before = len(found)
        for u, v, _ in ways:
            if u in found or v in found:
                found |= {u, v}
        if len(found) == before:
            return tuple(sorted(found))


def lots_by(n, ways):
    """The lots of the places that hang together by these ways, rising."""
    lots = []
    for place in range(n):
        if not any(place in lot for lot in lots):
            lots.append(reached(ways, place))
    return tuple(lots)


@cache
def all_trees(web):
    """All trees of a small web, rising."""
    n, ways = web
    return [legs for legs in combinations(ways, n - 1) if len(reached(legs, 0)) == n]


def length(legs):
    return sum(days for _, _, days in legs)


def longest(legs):
    return max([days for _, _, days in legs], default=0)


@cache
def least_of_all(web):
    """All least trees of a small web, rising."""
    trees = all_trees(web)
    least = min(length(legs) for legs in trees)
    return [legs for legs in trees if length(legs) == least]


def deep(wrap, times=30):
    """A value that is nested so many deep."""
    thing = 1
    for _ in range(times):
        thing = wrap(thing)
    return thing


ODD = [
    None, True, False, -1, 10 ** 40, -10 ** 40, "", "0", "web", (), [], [0], (0,), (None,), ((),), ((), ()),
    (1, []), [1, ()], deep(lambda thing: (thing,)), deep(lambda thing: [thing]), deep(lambda thing: (thing, thing), 8),
]
NO_NUMBERS = [None, True, False, "1", (), (1,), [1], [], deep(lambda thing: [thing])]

# Each row has a wrong thing, the class of its error and the error's `what`.
WEB_FAULTS = [(thing, BadWeb, -1) for thing in [
    None, True, 3, "ab", (), (1,), (1, (), ()), [1, ()], [], deep(lambda thing: (thing,))]]
WEB_FAULTS += [((n, ()), BadWeb, 0) for n in NO_NUMBERS + [0, -1, 41, 10 ** 40]]
WEB_FAULTS += [((True, []), BadWeb, 0), ((41, None), BadWeb, 0), ((0, ((0, 0, 0),)), BadWeb, 0)]
WEB_FAULTS += [((2, ways), BadWeb, 1) for ways in [None, True, 1, "ab", [], [(0, 1, 1)], deep(lambda thing: [thing])]]
WEB_FAULTS += [((2, (way,)), BadWay, 0) for way in [
    None, 1, "way", (), (0, 1), (0, 1, 1, 1), [0, 1, 1], (0, 1, 0), (0, 1, 201), (0, 1, -1), (0, 1, 10 ** 40),
    (1, 0, 1), (0, 0, 1), (1, 1, 1), (0, 2, 1), (-1, 1, 1), (0, True, 1), (False, 1, 1), (0, 1, True), (0, 1, None),
    (0, 1, "1"), ("0", "1", 1), (0, (1,), 1), ([0], 1, 1), deep(lambda thing: (thing,))]]
WEB_FAULTS += [
    ((1, ((0, 0, 1),)), BadWay, 0),
    ((1, ((0, 1, 1),)), BadWay, 0),
    ((3, ((0, 1, 1), (0, 1, 1), (1, 2, 1))), BadWay, 1),
    ((3, ((0, 1, 1), (0, 1, 2), (1, 2, 1))), BadWay, 1),
    ((3, ((0, 1, 2), (0, 1, 1), (1, 2, 1))), BadWay, 1),
    ((3, ((1, 2, 1), (0, 1, 1))), BadWay, 1),
    ((3, ((0, 2, 1), (0, 1, 5))), BadWay, 1),
    ((3, ((0, 1, 1), (0, 2, 1), (1, 2, 0))), BadWay, 2),
    ((3, ((0, 1, 1), (0, 2, True), (1, 2, 0))), BadWay, 1),
    ((3, ((0, 1, 1), (0, 1, 1), (1, 2, 0))), BadWay, 1),
    ((4, ((0, 1, 1), (0, 1, 0))), BadWay, 1),
    ((2, ()), Parted, 1),
    ((40, ()), Parted, 1),
    ((3, ((0, 1, 1),)), Parted, 2),
    ((3, ((0, 2, 1),)), Parted, 1),
    ((3, ((1, 2, 1),)), Parted, 1),
    ((5, ((0, 1, 1), (0, 4, 1), (2, 3, 1))), Parted, 2),
    ((5, ((0, 4, 1), (1, 2, 1), (2, 3, 1), (3, 4, 1), (3, 4, 2))), BadWay, 4),
]

# Of WEB.
TREE_FAULTS = [(thing, BadTree, -1) for thing in [
    None, True, 3, "abc", (), LEAST[:2], WEB[1], list(LEAST), (1, 2), deep(lambda thing: (thing,)), ((9, 9, 9),) * 4]]
TREE_FAULTS += [((leg,) + LEAST[1:], BadTree, 0) for leg in [
    None, 1, "leg", (), (0, 1), (0, 1, 2), (0, 3, 1), (1, 0, 1), [0, 1, 1], (0, True, 1), (False, 1, 1), (0, 1, True),
    (0, [1], 1), ((0,), 1, 1), (0, 1, 1, 1), deep(lambda thing: [thing])]]
TREE_FAULTS += [
    (((0, 1, 1), (1, 2, 2), (2, 3, True)), BadTree, 2),
    (((0, 1, 1), (0, 1, 1), (1, 2, 2)), BadTree, 1),
    (((1, 2, 2), (0, 1, 1), (2, 3, 4)), BadTree, 1),
    (((0, 1, 1), (2, 3, 4), (1, 2, 2)), BadTree, 2),
    (((0, 1, 1), (2, 3, 4), 5), BadTree, 2),
    (((0, 1, 1), 5, 5), BadTree, 1),
    (((0, 1, 1), (0, 2, 3), (1, 2, 2)), Parted, 3),
]
LOT_FAULTS = [(thing, BadLot, -1) for thing in [None, True, 0, "0", (), [], [0], [0, 1]]]
LOT_FAULTS += [((place,), BadLot, 0) for place in [None, True, False, -1, 4, 10 ** 40, "0", (), (0,), [0]]]
LOT_FAULTS += [
    ((0, 0), BadLot, 1), ((1, 0), BadLot, 1), ((0, True), BadLot, 1), ((0, 2, 1), BadLot, 2), ((0, 1, 4), BadLot, 2),
    ((3, 2, 1), BadLot, 1), ((0, 1, 2, 3, 3), BadLot, 4), ((False, 0), BadLot, 0), ((4, 4), BadLot, 0),
    (deep(lambda thing: (thing,)), BadLot, 0),
]
# Of WEB, and but for the tables of any other web.
TERMS_FAULTS = [(thing, BadTerms, -1) for thing in [
    None, True, 4, "loan", "loans", (), ("loans",), ("loans", 1, 3), ("loans", 1, 3, 1, 0), ["loans", 1, 3, 1],
    ("trips", 2, 0, 0), ("trips", 2), ("loan", 1, 3, 1), ("Loans", 1, 3, 1), (("loans",), 1, 3, 1), (1, 1, 3, 1),
    ("trips", 0, 0, 0), ("loans", 0, 0), (None, 1, ()), deep(lambda thing: [thing])]]
TERMS_FAULTS += [(("loans", k, 3, 1), BadTerms, 1) for k in NO_NUMBERS + [0, -1, 21, 10 ** 40]]
TERMS_FAULTS += [(("loans", 1, days, 0), BadTerms, 2) for days in NO_NUMBERS + [0, -1, 201, 10 ** 40]]
TERMS_FAULTS += [(("loans", 1, 3, told), BadTerms, 3) for told in NO_NUMBERS + [-1, 4, 10 ** 40]]
TERMS_FAULTS += [
    (("loans", 0, 0, 1), BadTerms, 1), (("loans", 1, 0, 1), BadTerms, 2), (("loans", 21, 3, 4), BadTerms, 1),
    (("loans", 1, 201, 202), BadTerms, 2), (("loans", 1, 200, 201), BadTerms, 3), (("loans", 1, True, 0), BadTerms, 2),
]
NO_PLACES = NO_NUMBERS + [-1, 4, 10 ** 40]


class Case(unittest.TestCase):
    """What the tests ask over and over."""

    def refuses(self, error, what, function, *arguments):
        """The call raises just this error, with just this `what`."""
        with self.assertRaises(Refused, msg=(function.__name__, arguments)) as caught:
            function(*arguments)
        told = (type(caught.exception), caught.exception.what, type(caught.exception.what))
        self.assertEqual(told, (error, what, type(what)), (function.__name__, arguments))

    def refuses_in_order(self, function, *choices):
        """For each argument there are faults, each of which goes ahead of all faults behind it.

        A choice is a good argument and a list of (wrong argument, error, what).
        """
        goods = [good for good, _ in choices]
        function(*goods)
        for at, (_, faults) in enumerate(choices):
            for wrong, error, what in faults:
                self.refuses(error, what, function, *goods[:at], wrong, *goods[at + 1:])
        # Two things are wrong at once: a few faults of each two arguments.
        for at, later in combinations(range(len(choices)), 2):
            for wrong, error, what in choices[at][1][::5] + choices[at][1][-1:]:
                for second, _, _ in choices[later][1][::7] + choices[later][1][-1:]:
                    arguments = list(goods)
                    arguments[at], arguments[later] = wrong, second
                    self.refuses(error, what, function, *arguments)

    def same(self, found, wanted, told=None):
        """The values are equal, and so are their kinds, all the way down."""
        self.assertEqual(found, wanted, told)
        self.assertEqual(kinds(found), kinds(wanted), told)

    def by_name(self, function, **named):
        """By name, in whichever order, the call returns what it returns by position."""
        wanted = function(*named.values())
        self.same(function(**named), wanted)
        self.same(function(**dict(reversed(list(named.items())))), wanted)


def kinds(thing):
    if isinstance(thing, (tuple, list)):
        return type(thing), [kinds(item) for item in thing]
    return type(thing)
