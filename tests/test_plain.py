"""The plain house: [14], [14.1] to [14.5] and the examples of [14.6]."""

import random
import unittest

from treeandtrip.errors import BadAsks, BadBook, BadPlace, BadTells, Lacks, Short, TooMany, Unlike, Untold
from treeandtrip.foe import foe_day
from treeandtrip.moments import count_of
from treeandtrip.numbers import first_hands, reserve, tree_needed
from treeandtrip.plain import Plain, resumed
from treeandtrip.runs import is_run
from treeandtrip.trees import least_tree, road
from tests.day_samples import ASKS_FAULTS, HANDS, LOAN_TERMS, MOMENT_FAULTS, SOME, amid_by_words, day_by_words
from tests.day_samples import drawn_back, drawn_tells, numbers_of, terms_for
from tests.samples import FORK, LEAST, LOANS, NO_NUMBERS, NO_PLACES, ONE, OTHER, PAIR, TERMS_FAULTS, TREE_FAULTS, TRIPS
from tests.samples import WEB, WEB_FAULTS, Case, all_trees, deep, star

TWO = (2, ((0, 1, 1),))


class DutyByDuty:
    """The house of [14.1] to [14.3], duty by duty; it keeps all asks for ever, and looks at no loan of the moment."""

    def __init__(self, web, terms, tree, root):
        self.web, self.terms, self.tree, self.root = web, terms, tree, root
        self.moment = (first_hands(web, terms, tree, root), (), ())
        self.reserve = reserve(web, terms, tree)
        self.days = {frozenset((u, v)): d for u, v, d in tree}
        # Each ask is [day, home], each loan that is out [the ask, the days that are left].
        self.asks, self.out, self.today = [], [], 0

    def legs(self, place):
        """(lower place, place above, days) for each leg on the road from a place to the root."""
        places = road(self.web, self.tree, place, self.root)
        return [(low, above, self.days[frozenset((low, above))]) for low, above in zip(places, places[1:])]

    def up_duties(self):
        """(day, lower place, place above) of all up duties of the asks whose homes are told."""
        return [(day + self.reserve - days, low, above)
                for day, home in self.asks if home is not None for low, above, days in self.legs(home)]

    def take(self, tells, asks):
        """The sends of a day with these tells and asks."""
        _, longest, told = numbers_of(self.terms)
        for index, home in tells:
            self.out[index][0][1], self.out[index][1] = home, told
        self.out = [loan for loan in self.out if loan[0][1] is None or loan[1] > 0]
        duties = []
        for place, back in asks:
            self.asks.append([self.today, back and back[1]])
            self.out.append([self.asks[-1], back[0] if back else longest])
            duties += [(above, low) for low, above, _ in self.legs(place)]
        duties += [(low, above) for day, low, above in self.up_duties() if day == self.today]
        sends = tuple((u, v, many) for (u, v) in sorted(set(duties))
                      for many in [duties.count((u, v)) - duties.count((v, u))] if many > 0)
        self.moment = day_by_words(self.web, self.terms, self.moment, (tells, asks, sends))
        for loan in self.out:
            loan[1] -= 1
        self.today += 1
        return sends

    def book(self):
        told = [(self.today - day, home) for day, home in self.asks]
        return tuple(item for item in told if item[0] <= self.reserve)

    def owed(self):
        due = [(day - self.today, low) for day, low, _ in self.up_duties() if day >= self.today]
        return tuple(pair + (due.count(pair),) for pair in sorted(set(due)))


def any_asks(draw, web, terms):
    """Asks at any places at all; often as many as can be, and often all of them at one place."""
    many = draw.choice([terms[1], draw.randint(0, terms[1])])
    places = [draw.randrange(web[0]) for _ in range(many)]
    if draw.random() < 0.4:
        places = places[:1] * many
    return tuple((place, drawn_back(draw, web, terms, place)) for place in places)


def drawn_deeds(draw, web, terms, moment):
    """What is handed to a house on a day: often what the foe tells of its moment."""
    if draw.random() < 0.3:
        return foe_day(web, terms, moment)
    return drawn_tells(draw, web, terms, moment), any_asks(draw, web, terms)


class Drawn(Case):

    def test_duty_by_duty(self):
        draw = random.Random(140)
        sent = 0
        for web in SOME:
            for terms in terms_for(web):
                tree, root = draw.choice(all_trees(web)), draw.randrange(web[0])
                sent += self.follow(draw, web, terms, tree, root, 14)
        self.assertGreater(sent, 2000)

    def test_long_legs(self):
        draw = random.Random(141)
        for web in (PAIR, star(4), FORK):
            for terms in LOAN_TERMS[:5]:
                self.follow(draw, web, terms, least_tree(web), draw.randrange(web[0]), 30)

    def follow(self, draw, web, terms, tree, root, many):
        """So many days of a house beside those of the words; how many sends there were."""
        house, words = Plain(web, terms, tree, root), DutyByDuty(web, terms, tree, root)
        days, crates = [], tree_needed(web, terms, tree)
        for _ in range(many):
            self.same(house.moment(), words.moment)
            self.same(house.book(), words.book())
            self.same(house.owed(), words.owed())
            tells, asks = drawn_deeds(draw, web, terms, words.moment)
            sends = house.take(tells, asks)
            self.same(sends, words.take(tells, asks), (web, terms, tree, root))
            self.assertEqual(count_of(house.moment()), crates)
            days.append((tells, asks, sends))
        self.same(house.run(), (first_hands(web, terms, tree, root), tuple(days)))
        self.assertIs(is_run(web, terms, house.run()), True)
        return sum(len(sends) for _, _, sends in days)

    def test_resumed_on_any_day(self):
        draw = random.Random(142)
        for web in SOME[::2]:
            for terms in terms_for(web)[1::2]:
                given = web, terms, draw.choice(all_trees(web)), draw.randrange(web[0])
                house, others = Plain(*given), []
                for _ in range(10):
                    others.append(resumed(*given, house.moment(), house.book()))
                    self.same(others[-1].owed(), house.owed())
                    tells, asks = drawn_deeds(draw, web, terms, house.moment())
                    sends = house.take(tells, asks)
                    for other in others:
                        self.same(other.take(tells, asks), sends)
                        self.same(other.moment(), house.moment())
                        self.same(other.book(), house.book())
                        self.same(other.owed(), house.owed())
                        self.assertIs(other.run(), None)

    def test_a_resumed_house_is_resumed_again(self):
        draw = random.Random(143)
        for terms in LOAN_TERMS:
            house = Plain(WEB, terms, OTHER, 1)
            other = house
            for _ in range(20):
                other = resumed(WEB, terms, OTHER, 1, other.moment(), other.book())
                tells, asks = drawn_deeds(draw, WEB, terms, house.moment())
                self.same(other.take(tells, asks), house.take(tells, asks))
                self.same((other.moment(), other.book(), other.owed()), (house.moment(), house.book(), house.owed()))

    def test_nothing_is_ever_lacked(self):
        """Many asks a day and all of them at one place, the homes as far away as can be."""
        for web in (ONE, TWO, PAIR, WEB, FORK):
            for terms in (("loans", 20, 6, 0), ("loans", 20, 6, 6), ("loans", 7, 3, 2), ("loans", 20, 1, 1)):
                k, longest, told = terms[1:]
                for tree in all_trees(web):
                    for at in range(web[0]):
                        self.press(web, terms, tree, at, (k, longest, told))

    def press(self, web, terms, tree, at, numbers):
        k, longest, told = numbers
        house = Plain(web, terms, tree, (at + 1) % web[0])
        for day in range(3 * longest + 9):
            far = (at + day) % web[0]
            tells = tuple((index, far) for index, loan in enumerate(house.moment()[2]) if loan == (told, None))
            back = None if told < longest else (longest, far)
            house.take(tells, ((at, back),) * k)
        self.assertEqual(count_of(house.moment()), tree_needed(web, terms, tree))


class Plains(Case):

    def test_at_first(self):
        for root in range(4):
            house = Plain(WEB, LOANS, OTHER, root)
            self.same(house.moment(), (first_hands(WEB, LOANS, OTHER, root), (), ()))
            self.same([house.run(), house.book(), house.owed()], [(house.moment()[0], ()), (), ()])

    def test_one_place(self):
        house = Plain(ONE, ("loans", 2, 3, 1), (), 0)
        self.same(house.moment(), ((6,), (), ()))
        for tells in ((), (), ((0, 0), (1, 0)), ((2, 0), (3, 0)), ((2, 0), (3, 0))):
            self.same(house.take(tells, ((0, None),) * 2), ())
            self.same(house.owed(), ())
        self.same(house.book(), ((3, 0), (3, 0), (2, None), (2, None), (1, None), (1, None)))

    def test_duties_against_one_another(self):
        house = Plain(TWO, ("loans", 3, 1, 1), ((0, 1, 1),), 0)
        self.same(house.take((), ((1, (1, 1)), (1, (1, 0)), (0, (1, 0)))), ((0, 1, 1),))
        self.same(house.take((), ((0, (1, 1)), (0, (1, 1)), (1, (1, 0)))), ((1, 0, 1),))
        self.same(house.take((), ((1, (1, 1)), (0, (1, 0)))), ())

    def test_the_day_of_a_duty_hangs_on_the_ask(self):
        """However early the home is told or the crate comes, it is sent up on the same day."""
        sends = []
        for asks, tells in [
                (((0, (1, 1)),), {}), (((0, (2, 1)),), {}), (((0, (3, 1)),), {}), (((0, None),), {1: ((0, 1),)}),
                (((0, None),), {2: ((0, 1),)})]:
            house = Plain(PAIR, ("loans", 1, 5, 3), ((0, 1, 7),), 0)
            sends.append([house.take(tells.get(day, ()), asks if day == 0 else ()) for day in range(12)])
        self.same(sends, [[()] * 2 + [((1, 0, 1),)] + [()] * 9] * 5)

    def test_told_and_sent_on_the_same_day(self):
        """With notice and legs as they are here, a duty falls on the very day on which the home must be told."""
        house = Plain(PAIR, ("loans", 1, 5, 3), ((0, 1, 7),), 0)
        house.take((), ((0, None),))
        self.same([house.owed(), house.take((), ()), house.owed()], [(), (), ()])
        self.refuses(Untold, 0, house.take, (), ())
        self.same([house.take(((0, 1),), ()), house.owed()], [((1, 0, 1),), ()])

    def test_the_book(self):
        """An ask stays in the book for as many days as the reserve has, whether its crate is home or not."""
        house = Plain(WEB, ("loans", 2, 3, 3), LEAST, 0)
        self.assertEqual(reserve(WEB, ("loans", 2, 3, 3), LEAST), 4)
        house.take((), ((0, (1, 3)), (1, (1, 0))))
        books = [house.book()]
        for _ in range(4):
            house.take((), ())
            books.append(house.book())
        self.same(books, [tuple([(age, 3), (age, 0)]) for age in (1, 2, 3, 4)] + [()])

    def test_what_is_owed(self):
        house = Plain(WEB, ("loans", 3, 3, 3), LEAST, 0)
        house.take((), ((0, (1, 3)), (1, (1, 2)), (2, (3, 3))))
        self.same(house.owed(), ((1, 2, 3), (2, 1, 3)))
        # The leg of place 3 takes as many days as the reserve has, so that its duties fall on the day of the ask.
        self.same(house.run()[1][0][2], ((0, 1, 2), (1, 2, 1), (3, 2, 2)))

    def test_refusals(self):
        faults = [(place, BadPlace, 0) for place in NO_PLACES]
        self.refuses_in_order(
            Plain, (WEB, WEB_FAULTS), (LOANS, TERMS_FAULTS), (LEAST, TREE_FAULTS), (0, faults))

    def at_work(self):
        """A house with two untold loans, of which the first must be told."""
        house = Plain(WEB, ("loans", 2, 3, 1), LEAST, 0)
        house.take((), ((2, None), (2, (1, 0))))
        house.take((), ((0, None),))
        self.assertEqual(house.moment()[2], ((1, None), (2, None)))
        return house

    def test_refused_days(self):
        house = self.at_work()
        before = house.moment(), house.run(), house.owed(), house.book()
        for tells, error, what in [
                (None, BadTells, -1), ([(0, 1)], BadTells, -1), (((0, 4),), BadTells, 0), (((0, True),), BadTells, 0),
                (((2, 0),), BadTells, 0), (((0, 1), (0, 1)), BadTells, 1), ((None,), BadTells, 0)]:
            for asks in ((), None, ((2, None),)):
                self.refuses(error, what, house.take, tells, asks)
        for asks, error, what in ASKS_FAULTS:
            self.refuses(error, what, house.take, (), asks)
            self.refuses(error, what, house.take, ((0, 1),), asks)
        self.refuses(Untold, 0, house.take, (), ())
        self.refuses(Untold, 0, house.take, ((1, 3),), ((0, None),))
        self.same((house.moment(), house.run(), house.owed(), house.book()), before)
        house.take(((0, 3),), ())
        self.assertNotEqual(house.owed(), before[2])

    def test_600_days(self):
        house = Plain(WEB, LOANS, LEAST, 0)
        for _ in range(599):
            house.take((), ())
        house.take((), ((3, None),))
        before = house.moment(), house.run(), house.owed(), house.book()
        self.assertEqual(len(before[1][1]), 600)
        self.refuses(TooMany, 601, house.take, (), ())
        self.refuses(TooMany, 601, house.take, ((0, 1),), ((3, None),))
        self.refuses(BadTells, 0, house.take, ((1, 1),), None)
        self.refuses(BadAsks, 0, house.take, (), (None,))
        self.same((house.moment(), house.run(), house.owed(), house.book()), before)
        other = resumed(WEB, LOANS, LEAST, 0, before[0], before[3])
        self.same([other.take((), ()), other.take(((0, 0),), ((2, None),))], [(), ((0, 1, 1), (1, 2, 1))])

    def test_the_601st_day_is_refused_last(self):
        terms = ("loans", 1, 1, 0)
        house = Plain(ONE, terms, (), 0)
        for day in range(600):
            house.take(((0, 0),) if day else (), ((0, None),))
        self.refuses(Untold, 0, house.take, (), ())
        self.refuses(Untold, 0, house.take, (), ((0, None),))
        self.refuses(TooMany, 601, house.take, ((0, 0),), ((0, None),))

    def test_what_is_returned_stays(self):
        house = self.at_work()
        told = [house.moment(), house.run(), house.owed(), house.book()]
        house.take(((0, 3), (1, 1)), ((3, None),))
        other = self.at_work()
        self.same(told, [other.moment(), other.run(), other.owed(), other.book()])

    def test_two_houses_share_nothing(self):
        one, other = self.at_work(), self.at_work()
        one.take(((0, 3),), ((3, None),))
        self.same(other.book(), ((2, None), (2, 0), (1, None)))

    def test_by_name(self):
        house = Plain(root=0, tree=LEAST, terms=LOANS, web=WEB)
        self.same(house.take(asks=((3, None),), tells=()), ((0, 1, 1), (1, 2, 1), (2, 3, 1)))
        other = resumed(book=((1, None),), moment=house.moment(), root=0, tree=LEAST, terms=LOANS, web=WEB)
        self.same(other.book(), house.book())

    def test_trips(self):
        house = Plain(FORK, TRIPS, FORK[1], 0)
        self.same(house.moment(), ((10, 4, 6), (), ()))
        self.same(house.take((), ((0, (3, 2)), (2, (3, 0)))), ((0, 2, 1),))
        self.same([house.owed(), house.book()], [((1, 2, 1),), ((1, 2), (1, 0))])
        self.same([house.take((), ()), house.take((), ())], [(), ((2, 0, 1),)])


# Of WEB and LOANS on its least tree from place 0: the reserve is 6, and a loan of so many days is of age 3 less these.
MOMENT = (HANDS, (), ((1, None), (0, 2), (2, None)))
BOOK = ((6, 2), (2, None), (2, 0), (1, None))
BOOK_FAULTS = [(thing, BadBook, -1) for thing in [
    None, True, 0, "book", [], list(BOOK), [(1, None)], deep(lambda thing: [thing])]]
BOOK_FAULTS += [((item,) + BOOK[1:], BadBook, 0) for item in [
    None, 1, "62", (), (6,), (6, 2, 0), [6, 2], (None, 2), deep(lambda thing: (thing,))]]
BOOK_FAULTS += [(((age, 2),) + BOOK[1:], BadBook, 0) for age in NO_NUMBERS + [0, -1, 7, 10 ** 40, -10 ** 40]]
BOOK_FAULTS += [(((6, home),) + BOOK[1:], BadBook, 0) for home in [
    True, False, "1", (), (1,), [1], -1, 4, 10 ** 40, deep(lambda thing: (thing,))]]
BOOK_FAULTS += [
    (((2, None), (2, 0), (3, 0), (1, None)), BadBook, 2), (((2, None), (3, 4), (1, None)), BadBook, 1),
    (BOOK + ((2, 0),), BadBook, 4), (BOOK + ((0, None),), BadBook, 4), (BOOK + ((1, 4),), BadBook, 4),
    (((1, None), None, None), BadBook, 1), (((1, None), (2, None)), BadBook, 1), (((0, None), None), BadBook, 0),
    (((6, 2), (True, None)), BadBook, 1),
]
UNLIKE = [
    (), BOOK[:3], BOOK[2:], ((2, None), (1, 0)), ((2, None), (2, None)), ((1, None), (1, None)),
    ((2, None), (1, None), (1, None)), ((3, None), (2, None), (1, None)), ((3, None), (1, None)), ((2, 0), (1, 2)),
    ((6, None), (2, None), (1, None)),
]


class Resumed(Case):

    def begun(self, moment, book, web=WEB, terms=LOANS, tree=LEAST, root=0):
        return resumed(web, terms, tree, root, moment, book)

    def test_refusals(self):
        moments = [(thing, error, what) for thing, error, what in MOMENT_FAULTS if what != 800000]
        places = [(place, BadPlace, 0) for place in NO_PLACES]
        self.refuses_in_order(
            resumed, (WEB, WEB_FAULTS), (LOANS, TERMS_FAULTS), (LEAST, TREE_FAULTS), (0, places), (MOMENT, moments),
            (BOOK, BOOK_FAULTS + [(book, Unlike, 0) for book in UNLIKE]))

    def test_what_is_unlike_is_refused_last(self):
        for book in UNLIKE:
            self.refuses(Unlike, 0, resumed, WEB, LOANS, LEAST, 0, MOMENT, book)
            self.refuses(BadBook, len(book), resumed, WEB, LOANS, LEAST, 0, MOMENT, book + (None,))
            self.refuses(BadPlace, 0, resumed, WEB, LOANS, LEAST, 4, MOMENT, book)
        self.refuses(Unlike, 0, resumed, TWO, ("loans", 1, 1, 1), ((0, 1, 1),), 0, ((1, 1), (), ()), ((1, None),))
        self.refuses(Unlike, 0, resumed, FORK, TRIPS, FORK[1], 0, ((1, 1, 1), (), ()), ((1, None),))

    def test_ages_that_are_let(self):
        for book in (BOOK, ((6, 0),) * 90 + BOOK, BOOK[:2] + ((1, 3), (1, None), (1, 3)), ((2, None), (1, None))):
            self.same(self.begun(MOMENT, book).book(), book)
        many = (HANDS, (), ((2, None),) * 5)
        self.same(self.begun(many, ((1, None),) * 5).book(), ((1, None),) * 5)
        self.refuses(Unlike, 0, self.begun, many, ((1, None),) * 4)
        # H is that of this very tree and these terms: here that of the loans alone.
        self.same(self.begun(((9,), (), ()), ((3, 0),), ONE, LOANS, ()).book(), ((3, 0),))
        self.refuses(BadBook, 0, resumed, ONE, LOANS, (), 0, ((9,), (), ()), ((4, 0),))
        self.same(self.begun(((9, 9), (), ()), ((9, 0),), PAIR, LOANS, ((0, 1, 7),)).book(), ((9, 0),))
        self.refuses(BadBook, 0, resumed, PAIR, LOANS, ((0, 1, 7),), 0, ((9, 9), (), ()), ((10, 0),))

    def test_what_is_owed_of_a_book(self):
        """Of each age those duties are still to come that do not fall on a day ahead of the coming one."""
        for age, wanted in [
                (1, ((1, 3, 1), (3, 2, 1), (4, 1, 1))), (2, ((0, 3, 1), (2, 2, 1), (3, 1, 1))),
                (3, ((1, 2, 1), (2, 1, 1))),
                (4, ((0, 2, 1), (1, 1, 1))), (5, ((0, 1, 1),)), (6, ())]:
            self.same(self.begun((HANDS, (), ()), ((age, 3),)).owed(), wanted, age)
        house = self.begun(((9, 9, 9, 9), (), ()), ((3, 3), (2, 3), (2, 2), (1, 0)))
        self.same(house.owed(), ((0, 3, 1), (1, 2, 1), (2, 1, 1), (2, 2, 2), (3, 1, 2)))
        sends = [house.take((), ()) for _ in range(5)]
        self.same(sends, [((3, 2, 1),), ((2, 1, 1),), ((1, 0, 1), (2, 1, 2)), ((1, 0, 2),), ()])

    def test_untold_loans_are_the_asks_in_their_order(self):
        house = self.begun(MOMENT, BOOK)
        house.take(((0, 3), (2, 1)), ())
        self.same(house.book(), ((3, 3), (3, 0), (2, 1)))
        house = self.begun(MOMENT, BOOK)
        self.refuses(Untold, 0, house.take, ((2, 1),), ())
        house.take(((0, 1),), ())
        self.same(house.book(), ((3, 1), (3, 0), (2, None)))
        same_age = self.begun((HANDS, (), ((0, 0), (1, None), (0, 2), (1, None), (1, None))), ((2, None),) * 3)
        same_age.take(((1, 1), (3, 2), (4, 3)), ())
        self.same(same_age.book(), ((3, 1), (3, 2), (3, 3)))

    def test_lacks(self):
        house = self.begun(((1, 0, 9, 9), (), ((2, None),)), ((1, None),))
        before = house.moment(), house.owed(), house.book()
        self.refuses(Lacks, 0, house.take, ((0, 3),), ((1, None),))
        self.refuses(BadTells, 0, house.take, ((1, 3),), ((1, None),))
        self.same((house.moment(), house.owed(), house.book()), before)
        self.same(house.take(((0, 3),), ((0, None),)), ())

    def test_short(self):
        house = self.begun(((0, 0, 0, 0), (), ()), ((5, 1), (4, 2), (2, 3)))
        before = house.moment(), house.owed(), house.book()
        self.refuses(Short, 1, house.take, (), ())
        self.refuses(Lacks, 0, house.take, (), ((1, None),))
        self.refuses(BadAsks, 0, house.take, (), ((4, None),))
        self.same((house.moment(), house.owed(), house.book()), before)
        for hands, place in [((9, 1, 0, 1), 2), ((9, 1, 1, 0), 3), ((9, 0, 1, 0), 1), ((0, 1, 0, 0), 2)]:
            self.refuses(Short, place, self.begun((hands, (), ()), ((5, 1), (4, 2), (2, 3))).take, (), ())
        self.same(self.begun(((0, 1, 1, 1), (), ()), ((5, 1), (4, 2), (2, 3))).take((), ()), (
            (1, 0, 1), (2, 1, 1), (3, 2, 1)))

    def test_short_of_what_all_asks_have_left(self):
        """A place sends over several legs, and what is asked for there is gone before."""
        fork, terms = (3, ((0, 1, 1), (0, 2, 1))), ("loans", 3, 1, 1)
        given = fork, terms, fork[1], 0
        asks = ((1, (1, 0)), (2, (1, 0)))
        for hands, wanted in [((2, 1, 1), ((0, 1, 1), (0, 2, 1))), ((1, 1, 1), 0), ((0, 1, 1), 0)]:
            house = resumed(*given, (hands, (), ()), ())
            if wanted == 0:
                self.refuses(Short, 0, house.take, (), asks)
                self.same(house.moment(), (hands, (), ()))
            else:
                self.same(house.take((), asks), wanted)
        house = resumed(*given, ((2, 1, 1), (), ()), ())
        self.refuses(Short, 0, house.take, (), asks + ((0, (1, 0)),))
        self.same(house.book(), ())
        # The homes told by what is refused are forgotten, too: the crate can be told to come elsewhere.
        house = self.begun(((0, 0, 0, 0), (), ((1, None),)), ((4, 2), (2, None)))
        self.refuses(Short, 2, house.take, ((0, 3),), ())
        self.same(house.book(), ((4, 2), (2, None)))

    def test_more_than_600_days(self):
        house = self.begun(((13, 0, 0, 0), (), ()), ())
        for _ in range(650):
            house.take((), ())
        self.same([house.take((), ((0, None),)), house.run(), house.book()], [(), None, ((1, None),)])

    def test_nothing_of_the_arguments_is_kept(self):
        one, other = self.begun(MOMENT, BOOK), self.begun(MOMENT, BOOK)
        one.take(((0, 1),), ())
        self.same((other.moment(), other.book()), (MOMENT, BOOK))
        self.assertIsNot(other.moment(), MOMENT)

    def test_asks_that_do_not_fit_the_moment_are_trusted(self):
        house = self.begun((HANDS, (), ((0, 3),)), ((6, 0), (4, 1), (4, 1), (1, 2)))
        self.same(house.owed(), ((1, 1, 2), (3, 2, 1), (4, 1, 1)))
        self.assertEqual(amid_by_words(WEB, LOANS, house.moment(), (), ())[0], (6, 1, 2, 5))


if __name__ == "__main__":
    unittest.main()
