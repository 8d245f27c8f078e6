"""Moments, days and runs, drawn or wrong, and days that are done by the words of [7.4], which the tests share."""

import random

from treeandtrip.errors import BadAsks, BadDay, BadHands, BadMoment, BadRun, BadSends, BadTells, TooMany
from tests.samples import DRAWN, FORK, NO_NUMBERS, ONE, PAIR, WEB, deep, ring, row, star

LOAN_TERMS = [
    ("loans", 1, 1, 0), ("loans", 1, 1, 1), ("loans", 1, 3, 1), ("loans", 2, 4, 0), ("loans", 3, 4, 4),
    ("loans", 2, 5, 3), ("loans", 20, 2, 1),
]
SOME = [ONE, PAIR, WEB, FORK, row(5), star(5), ring(5)] + DRAWN[:15]
HANDS = (6, 1, 2, 4)
# At the third moment of [7.5], with more loans: the one of index 1 must be told, that of index 3 may be told.
TWO_ASKS = ("loans", 2, 3, 1)
MOMENT = ((5, 1, 0, 3), ((0, 2, 1), (2, 3, 1)), ((0, 1), (1, None), (0, 3), (2, None)))
TELLS = ((1, 2), (3, 0))
ASKS = ((2, None), (0, (1, 3)))
SENDS = ((0, 1, 2), (0, 2, 1), (1, 0, 1), (3, 2, 3))
DAY = (TELLS, ASKS, SENDS)


def numbers_of(terms):
    """k, L and j of terms."""
    if terms[0] == "loans":
        return terms[1:]
    greatest = max(max(line) for line in terms[2])
    return terms[1], greatest, greatest


def trips_for(web, k=3):
    n = web[0]
    return "trips", k, tuple(tuple(0 if a == b else 1 + (a + 2 * b) % 3 for b in range(n)) for a in range(n))


def terms_for(web):
    """Loans of many sorts, and trips where the web has two places."""
    return LOAN_TERMS + ([trips_for(web), trips_for(web, 1)] if web[0] > 1 else [])


def days_by(web):
    """The days of each way, in either direction."""
    days = {(u, v): d for u, v, d in web[1]}
    days.update({(v, u): d for u, v, d in web[1]})
    return days


def drawn_moment(draw, web, terms, most=4):
    """A moment of the web and the terms, which need not come about by any days."""
    n = web[0]
    _, longest, told = numbers_of(terms)
    hands = tuple(draw.randint(0, most) for _ in range(n))
    due = {(draw.choice([0, 0, 1, 2, 5, 199]), draw.randrange(n)) for _ in range(draw.randint(0, most))}
    empties = tuple(pair + (draw.randint(1, most),) for pair in sorted(due))
    untold = sorted(draw.randint(told, longest - 1) for _ in range(draw.randint(0, most)) if told < longest)
    loans = [(days, None) for days in untold]
    for _ in range(draw.randint(0, most) if told else 0):
        loans.insert(draw.randint(0, len(loans)), (draw.randint(0, told - 1), draw.randrange(n)))
    return hands, empties, tuple(loans)


def drawn_tells(draw, web, terms, moment):
    """Tells of all loans that must be told, and of some others."""
    told = numbers_of(terms)[2]
    return tuple(
        (index, draw.randrange(web[0])) for index, (days, home) in enumerate(moment[2])
        if home is None and (days == told or draw.random() < 0.3))


def drawn_back(draw, web, terms, place):
    n = web[0]
    if terms[0] == "trips":
        home = draw.choice([other for other in range(n) if other != place])
        return terms[2][place][home], home
    _, longest, told = numbers_of(terms)
    if told == 0 or told < longest and draw.random() < 0.5:
        return None
    return draw.randint(1, told), draw.randrange(n)


def drawn_asks(draw, web, terms, places):
    """Asks at some of these places, each of which has a crate for each time that it stands among them."""
    chosen = draw.sample(places, min(len(places), draw.randint(0, terms[1])))
    return tuple((place, drawn_back(draw, web, terms, place)) for place in chosen)


def drawn_sends(draw, web, hands):
    left = list(hands)
    sends = []
    for (u, v) in sorted(days_by(web)):
        many = draw.randint(0, left[u])
        if many and draw.random() < 0.4:
            left[u] -= many
            sends.append((u, v, many))
    return tuple(sends)


def drawn_day(draw, web, terms, moment):
    """A day that can be done at the moment."""
    tells = drawn_tells(draw, web, terms, moment)
    hands = amid_by_words(web, terms, moment, tells, ())[0]
    asks = drawn_asks(draw, web, terms, [place for place, many in enumerate(hands) for _ in range(many)])
    hands = amid_by_words(web, terms, moment, tells, asks)[0]
    return tells, asks, drawn_sends(draw, web, hands)


def drawn_run(seed, web, terms, many, hands=None):
    """A run of so many days."""
    draw = random.Random(seed)
    hands = tuple(draw.randint(0, 4) for _ in range(web[0])) if hands is None else hands
    moment = (hands, (), ())
    days = []
    for _ in range(many):
        days.append(drawn_day(draw, web, terms, moment))
        moment = day_by_words(web, terms, moment, days[-1])
    return hands, tuple(days)


def told_of(crates, n):
    """What a moment tells of a list of crates, each of which is (what, days, place)."""
    hands = tuple(len([1 for what, _, at in crates if what == "hand" and at == place]) for place in range(n))
    due = [(days, place) for what, days, place in crates if what == "empty"]
    empties = tuple(pair + (due.count(pair),) for pair in sorted(set(due)))
    return hands, empties, tuple((days, place) for what, days, place in crates if what == "loan")


def crates_of(moment):
    hands, empties, loans = moment
    crates = [("hand", 0, place) for place, many in enumerate(hands) for _ in range(many)]
    crates += [("empty", days, place) for days, place, many in empties for _ in range(many)]
    return crates + [("loan", days, place) for days, place in loans]


def crates_amid(web, terms, moment, tells, asks):
    """The crates behind the third step of [7.4], one by one; or the name of an error and its `what`."""
    _, longest, told = numbers_of(terms)
    crates = crates_of(moment)
    first = len(crates) - len(moment[2])
    for index, home in tells:
        crates[first + index] = ("loan", told, home)
    for index, (_, days, home) in enumerate(crates[first:]):
        if home is None and days == told:
            return "Untold", index
    crates = [("hand", 0, place) if days == 0 else (what, days, place) for what, days, place in crates]
    for index, (place, back) in enumerate(asks):
        if ("hand", 0, place) not in crates:
            return "Lacks", index
        crates.remove(("hand", 0, place))
        crates.append(("loan",) + (back or (longest, None)))
    return crates


def amid_by_words(web, terms, moment, tells, asks):
    """What `opened` tells, or the name of an error and its `what`."""
    crates = crates_amid(web, terms, moment, tells, asks)
    return crates if isinstance(crates, tuple) else told_of(crates, web[0])


def day_by_words(web, terms, moment, day):
    """What `after_day` tells, or the name of an error and its `what`."""
    tells, asks, sends = day
    crates = crates_amid(web, terms, moment, tells, asks)
    if isinstance(crates, tuple):
        return crates
    for index, (u, v, many) in enumerate(sends):
        for _ in range(many):
            if ("hand", 0, u) not in crates:
                return "TooFew", index
            crates.remove(("hand", 0, u))
            crates.append(("empty", days_by(web)[u, v], v))
    return told_of([(what, days - (what != "hand"), place) for what, days, place in crates], web[0])


HANDS_FAULTS = [(thing, BadHands, -1) for thing in [
    None, True, 4, "6124", (), (6, 1, 2), (6, 1, 2, 4, 0), list(HANDS), (True, None), deep(lambda thing: (thing,))]]
HANDS_FAULTS += [((6, many, 2, 4), BadHands, 1) for many in NO_NUMBERS + [-1, 200001, 10 ** 40]]
HANDS_FAULTS += [
    ((True, 1, 2, 4), BadHands, 0), ((6, 1, 2, False), BadHands, 3), ((6, -1, True, None), BadHands, 1),
    ((200001, 200001, 0, -1), BadHands, 0), ((200000, 0, 1, -1), BadHands, 3),
    ((200000, 200000, 0, 200001), BadHands, 3),
    ((200000, 0, 0, 1), TooMany, 200001), ((200000,) * 4, TooMany, 800000),
    ((100000, 50000, 50000, 1), TooMany, 200001),
]

# Of WEB and TWO_ASKS: untold loans have 1 or 2 days, told ones 0.
MOMENT_FAULTS = [(thing, BadMoment, -1) for thing in [
    None, True, 3, "abc", (), (HANDS,), (HANDS, ()), (HANDS, (), (), ()), [HANDS, (), ()], (None, None),
    deep(lambda thing: [thing])]]
MOMENT_FAULTS += [((hands, (), ()), BadMoment, 0) for hands, _, _ in HANDS_FAULTS]
MOMENT_FAULTS += [((hands, None, None), BadMoment, 0) for hands, _, _ in HANDS_FAULTS[::4]]
BAD_EMPTIES = [
    None, True, 0, "", [], [(0, 1, 1)], (None,), ((),), ((0, 1),), ((0, 1, 1, 1),), ([0, 1, 1],), (((0,), 1, 1),)]
BAD_EMPTIES += [((days, 1, 1),) for days in NO_NUMBERS + [-1, 200, 10 ** 40]]
BAD_EMPTIES += [((0, place, 1),) for place in NO_NUMBERS + [-1, 4, 10 ** 40]]
BAD_EMPTIES += [((0, 1, many),) for many in NO_NUMBERS + [0, -1, -10 ** 40]]
BAD_EMPTIES += [
    ((0, 1, 1), (0, 1, 1)), ((0, 1, 1), (0, 1, 2)), ((0, 2, 1), (0, 1, 1)), ((1, 0, 1), (0, 1, 1)),
    ((0, 1, 1), (0, 2, 1), (0, 2, 2)), ((0, 1, 1), (199, 3, 0)), deep(lambda thing: (thing,)),
]
MOMENT_FAULTS += [((HANDS, empties, ()), BadMoment, 1) for empties in BAD_EMPTIES]
MOMENT_FAULTS += [((HANDS, empties, None), BadMoment, 1) for empties in BAD_EMPTIES[::5]]
BAD_LOANS = [
    None, True, 0, "", [], [(0, 1)], (None,), ((),), ((0,),), ((0, 1, 1),), ([0, 1],), ([1, None],), (((0,), 1),)]
BAD_LOANS += [((0, home),) for home in [None, True, False, "1", (), (1,), [1], -1, 4, 10 ** 40]]
BAD_LOANS += [((days, 1),) for days in NO_NUMBERS + [-1, 1, 2, 10 ** 40]]
BAD_LOANS += [((days, None),) for days in NO_NUMBERS + [-1, 0, 3, 10 ** 40]]
BAD_LOANS += [
    ((2, None), (1, None)), ((1, None), (2, None), (0, 3), (1, None)), ((2, None), (0, 1), (1, None)),
    ((1, None), (2, None), (2, None), (3, None)), ((0, 1), (0, 2), (1, 3)), deep(lambda thing: (thing,)),
]
MOMENT_FAULTS += [((HANDS, (), loans), BadMoment, 2) for loans in BAD_LOANS]
MOMENT_FAULTS += [
    (((200000, 0, 0, 0), ((0, 1, 1),), ()), TooMany, 200001),
    (((199999, 0, 0, 0), ((0, 1, 1),), ((1, None),)), TooMany, 200001),
    (((199999, 0, 0, 0), (), ((0, 0), (1, None))), TooMany, 200001),
    (((0, 0, 0, 0), ((0, 1, 10 ** 40),), ()), TooMany, 10 ** 40),
    (((1, 0, 0, 0), ((0, 1, 200000), (0, 2, 200000)), ()), TooMany, 400001),
    (((200000, 0, 0, 0), ((0, 1, 1),), ((0, None),)), BadMoment, 2),
]

# Of MOMENT.
TELLS_FAULTS = [(thing, BadTells, -1) for thing in [
    None, True, 1, "12", [], list(TELLS), [[1, 2]], deep(lambda thing: [thing])]]
TELLS_FAULTS += [((tell, (3, 0)), BadTells, 0) for tell in [
    None, 1, "12", (), (1,), (1, 2, 0), [1, 2], ((1,), 2), (1, None), (1, True), (1, False), (True, 2), (1, -1), (1, 4),
    (1, 10 ** 40), (-1, 2), (-3, 2), (4, 2), (10 ** 40, 2), (0, 2), (2, 2), ("1", 2), (1, "2"), (1, (2,)),
    deep(lambda thing: (thing,))]]
TELLS_FAULTS += [
    (((3, 0), (1, 2)), BadTells, 1), (((1, 2), (1, 2)), BadTells, 1), (((1, 2), (1, 3)), BadTells, 1),
    (((1, 2), (3, True)), BadTells, 1), (((1, 2), (2, 0)), BadTells, 1), (((1, 2), (3, 0), (4, 0)), BadTells, 2),
    (((1, 2), (3, 0), (3, 0)), BadTells, 2), (((1, 2), None, None), BadTells, 1),
]
ASKS_FAULTS = [(thing, BadAsks, -1) for thing in [
    None, True, 0, "20", [], list(ASKS), ASKS + ASKS[:1], (None,) * 3, deep(lambda thing: [thing])]]
ASKS_FAULTS += [((ask, (0, None)), BadAsks, 0) for ask in [
    None, 0, "ab", (), (2,), (2, None, None), [2, None], (None, None), (True, None), (False, None), (-1, None),
    (4, None), (10 ** 40, None), ("2", None), ((2,), None), (2, ()), (2, (1,)), (2, (1, 3, 0)), (2, [1, 3]), (2, 1),
    (2, True), (2, False), (2, (0, 3)), (2, (2, 3)), (2, (3, 3)), (2, (-1, 3)), (2, (10 ** 40, 3)), (2, (True, 3)),
    (2, (None, 3)), (2, (1, None)), (2, (1, True)), (2, (1, -1)), (2, (1, 4)), (2, ("1", 3)), (2, (1, (3,))),
    deep(lambda thing: (thing,))]]
ASKS_FAULTS += [(((0, None), ask), BadAsks, 1) for ask in [None, (4, None), (0, (2, 0)), (0, (1, True))]]
SENDS_FAULTS = [(thing, BadSends, -1) for thing in [
    None, True, 1, "012", [], list(SENDS), [(0, 1, 1)], deep(lambda thing: [thing])]]
SENDS_FAULTS += [((send, (3, 2, 1)), BadSends, 0) for send in [
    None, 1, "012", (), (0, 1), (0, 1, 1, 1), [0, 1, 1], (0, 3, 1), (3, 0, 1), (1, 3, 1), (0, 0, 1), (0, 4, 1),
    (4, 0, 1),
    (-1, 0, 1), (0, -1, 1), (0, True, 1), (False, 1, 1), (0, 1, True), (0, 1, 0), (0, 1, -1), (0, 1, 200001),
    (0, 1, 10 ** 40), (0, 1, None), (None, 1, 1), (0, "1", 1), (0, (1,), 1), ([0], 1, 1), (10 ** 40, 1, 1),
    deep(lambda thing: (thing,))]]
SENDS_FAULTS += [
    (((0, 1, 1), (0, 1, 1)), BadSends, 1), (((0, 1, 1), (0, 1, 2)), BadSends, 1),
    (((1, 0, 1), (0, 1, 1)), BadSends, 1),
    (((0, 1, 1), (1, 0, 1), (1, 0, 2)), BadSends, 2), (((0, 2, 1), (0, 1, 1), None), BadSends, 1),
    (((0, 1, 1), (2, 3, True), (0, 1, 1)), BadSends, 1),
]
DAY_FAULTS = [(thing, BadDay, -1) for thing in [
    None, True, 3, "day", (), (TELLS,), (TELLS, ASKS), (TELLS, ASKS, SENDS, ()), list(DAY), (None, None),
    deep(lambda thing: (thing,))]]
DAY_FAULTS += [((tells, ASKS, SENDS), error, what) for tells, error, what in TELLS_FAULTS]
DAY_FAULTS += [((tells, None, None), error, what) for tells, error, what in TELLS_FAULTS[::6]]
DAY_FAULTS += [((TELLS, asks, SENDS), error, what) for asks, error, what in ASKS_FAULTS]
DAY_FAULTS += [((TELLS, asks, None), error, what) for asks, error, what in ASKS_FAULTS[::6]]
DAY_FAULTS += [((TELLS, ASKS, sends), error, what) for sends, error, what in SENDS_FAULTS]

# Of WEB and LOANS.
STILL = ((), (), ())
RUN = (HANDS, (((), ((3, None),), ((0, 1, 1), (1, 2, 1), (2, 3, 1))), STILL, (((0, 2),), (), ((2, 1, 1),))))
RUN_FAULTS = [(thing, BadRun, -1) for thing in [
    None, True, 2, "ab", (), (HANDS,), (HANDS, (), ()), [HANDS, ()], (HANDS, None), (HANDS, []), (HANDS, True),
    (HANDS, [STILL]), (HANDS, (STILL,) * 601), (None, [STILL]), (None, (None,) * 601), deep(lambda thing: (thing,))]]
RUN_FAULTS += [((hands, ()), error, what) for hands, error, what in HANDS_FAULTS]
RUN_FAULTS += [((hands, (None,)), error, what) for hands, error, what in HANDS_FAULTS[::4]]
RUN_FAULTS += [((HANDS, (day,)), BadRun, 0) for day in [
    None, 1, (), ((), ()), [(), (), ()], (None, (), ()), ((), None, ()), ((), (), None), ((), ((0, None),) * 2, ()),
    ((), (), ((0, 3, 1),)), ((), (), ((0, 1, 7),)), (((0, 0),), (), ()), ((), ((True, None),), ())]]
RUN_FAULTS += [((HANDS, RUN[1][:1] + (day, None)), BadRun, 1) for day in [
    None, ((), ((1, (2, 1)),), ()), (((1, 2),), (), ()), ((), (), ((1, 0, 2),)), (((0, True),), (), ())]]
RUN_FAULTS += [
    ((HANDS, RUN[1][:2] + (STILL,)), BadRun, 2), ((HANDS, RUN[1] + (STILL, None, STILL)), BadRun, 4),
    ((HANDS, (STILL,) * 599 + (None,)), BadRun, 599),
]
