"""Runners: [13], with the expressions of [12.1] and the statements of [12.2], and the example of [13.1]."""

import random
import unittest

from treeandtrip.errors import BadAsks, BadTells, Lacks, TooMany, Untold
from treeandtrip.moments import first_moment
from treeandtrip.runner import Runner
from treeandtrip.runs import is_run, moments
from tests.day_samples import ASKS_FAULTS, HANDS, HANDS_FAULTS, SOME, amid_by_words, drawn_asks, drawn_tells, terms_for
from tests.house_samples import HOUSE_FAULTS, STAY, ByWords, busy_house, drawn_house
from tests.samples import FORK, LOANS, ONE, PAIR, TERMS_FAULTS, TRIPS, WEB, WEB_FAULTS, Case, alike

TWO = (2, ((0, 1, 1),))
MILLION = 1000000
END = ("*", MILLION, MILLION)


def drawn_deeds(draw, web, terms, moment):
    """Tells and asks that can be done at the moment."""
    tells = drawn_tells(draw, web, terms, moment)
    hands = amid_by_words(web, terms, moment, tells, ())[0]
    return tells, drawn_asks(draw, web, terms, [place for place, many in enumerate(hands) for _ in range(many)])


class Drawn(Case):

    def test_by_the_words(self):
        draw = random.Random(130)
        sent = 0
        for web in SOME:
            for terms in terms_for(web):
                for house in (drawn_house(draw.random()), busy_house(draw, web), busy_house(draw, web)):
                    sent += len(self.follow(draw, web, terms, house))
        self.assertGreater(sent, 500)

    def follow(self, draw, web, terms, house):
        """Some days of a runner beside those of the words; what was sent."""
        hands = tuple(draw.randint(0, 9) for _ in range(web[0]))
        runner, words = Runner(web, terms, house, hands), ByWords(web, terms, house, hands)
        days, seen = [], [words.moment]
        for _ in range(7):
            tells, asks = drawn_deeds(draw, web, terms, words.moment)
            sends = runner.take(tells, asks)
            self.same(sends, words.take(tells, asks), (web, terms, house))
            self.same(runner.moment(), words.moment)
            self.same(runner.cells(), tuple(words.cells))
            days.append((tells, asks, sends))
            seen.append(words.moment)
        self.same(runner.run(), (hands, tuple(days)))
        self.assertIs(is_run(web, terms, runner.run()), True)
        self.same(moments(web, terms, runner.run()), tuple(seen))
        return [send for _, _, sends in days for send in sends]


class Values(Case):
    """Each expression is put into cell 0 and told by it."""

    def value(self, expression, web=WEB, terms=LOANS, hands=HANDS, days=(((), ()),)):
        """What the expression is worth on the last of these days."""
        runner = Runner(web, terms, (("set", 0, expression),), hands)
        for tells, asks in days:
            self.assertEqual(runner.take(tells, asks), ())
        return runner.cells()[0]

    def worth(self, wanted, expression, *where):
        self.same(self.value(expression, *where), wanted, expression)

    def test_numbers_and_days(self):
        for number in (0, 1, 39, MILLION):
            self.worth(number, number)
        self.worth(0, ("day",))
        self.worth(3, ("day",), WEB, LOANS, HANDS, [((), ())] * 4)
        self.worth(599, ("day",), ONE, ("loans", 1, 1, 1), (0,), [((), ())] * 600)

    def test_sums_differences_and_products(self):
        for wanted, expression in [
                (5, ("+", 2, 3)), (-1, ("-", 2, 3)), (6, ("*", 2, 3)), (-6, ("*", ("-", 0, 2), 3)),
                (6, ("*", ("-", 0, 2), ("-", 0, 3))), (0, ("*", 0, ("-", 0, 3))), (0, ("-", 7, 7))]:
            self.worth(wanted, expression)

    def test_quotients(self):
        seven, two = ("-", 0, 7), ("-", 0, 2)
        for wanted, expression in [
                (3, ("/", 7, 2)), (-4, ("/", seven, 2)), (-4, ("/", 7, two)), (3, ("/", seven, two)),
                (0, ("/", 7, 0)), (0, ("/", seven, 0)), (0, ("/", 0, 0)), (0, ("/", 0, 7)), (0, ("/", 0, seven)),
                (-1, ("/", ("-", 0, 1), MILLION)), (0, ("/", 1, MILLION)), (7, ("/", 7, 1)),
                (-7, ("/", 7, ("-", 0, 1))),
                (10 ** 9, ("/", END, 1)), (-10 ** 9, ("/", ("-", 0, END), 1)), (1000, ("/", END, MILLION))]:
            self.worth(wanted, expression)

    def test_lesser_greater_and_comparisons(self):
        minus_one = ("-", 0, 1)
        for wanted, expression in [
                (2, ("min", 2, 3)), (2, ("min", 3, 2)), (3, ("max", 2, 3)), (3, ("max", 3, 2)),
                (-1, ("min", 0, minus_one)),
                (0, ("max", minus_one, 0)), (4, ("min", 4, 4)), (1, ("<", 2, 3)), (0, ("<", 3, 2)), (0, ("<", 3, 3)),
                (1, ("<", minus_one, 0)), (1, ("=", 3, 3)), (0, ("=", 3, 2)), (0, ("=", minus_one, 1)),
                (2, ("+", ("<", 0, 1), ("=", 1, 1)))]:
            self.worth(wanted, expression)

    def test_each_value_is_cut(self):
        for wanted, expression in [
                (10 ** 9, END), (10 ** 9, ("*", 1000, MILLION)), (10 ** 9 - 1000, ("*", 1000, MILLION - 1)),
                (10 ** 9, ("*", 1001, MILLION)), (10 ** 9, ("+", END, 1)), (10 ** 9 - 1, ("-", END, 1)),
                (10 ** 9, ("+", ("-", END, 1), 1)), (10 ** 9, ("+", END, END)), (0, ("-", END, END)),
                (10 ** 9 - 1, ("-", ("+", END, 1), 1)), (10 ** 9 - 1, ("+", ("-", END, 2), 1)),
                (-10 ** 9, ("-", 0, END)), (-10 ** 9, ("-", ("-", 0, END), 1)), (-10 ** 9, ("-", ("-", 0, END), END)),
                (1 - 10 ** 9, ("+", ("-", ("-", 0, END), 5), 1)), (-10 ** 9, ("*", END, ("-", 0, 2))),
                (10 ** 9, ("*", END, END)), (-10 ** 9, ("*", END, ("-", 0, END))),
                (10 ** 9, ("max", END, ("+", END, 1))),
                (1, ("=", END, ("+", END, 1))), (0, ("<", END, ("+", END, 1))), (1, ("<", ("-", END, 1), END)),
                (1, ("/", END, ("+", END, 5)))]:
            self.worth(wanted, expression)

    def test_a_factor_is_cut_from_day_to_day(self):
        runner = Runner(ONE, ("loans", 1, 1, 1), (("set", 0, ("+", 1, ("*", ("cell", 0), 1000))),), (0,))
        found = []
        for _ in range(6):
            runner.take((), ())
            found.append(runner.cells()[0])
        self.same(found, [1, 1001, 1001001, 10 ** 9, 10 ** 9, 10 ** 9])

    def test_what_is_no_place(self):
        days = [((), ((3, None),)), ((), ((0, (1, 2)),)), (((0, 3),), ((3, (1, 3)),))]
        for word, many in (("hand", 2), ("asked", 1), ("told", 2)):
            self.worth(many, (word, 3), WEB, LOANS, HANDS, days)
        self.worth(2, ("bound", 3, 200), WEB, LOANS, HANDS, days)
        for place in (("-", 0, 1), ("-", 0, 4), 4, 5, MILLION, END, ("-", 0, END)):
            for word in ("hand", "asked", "told"):
                self.worth(0, (word, place), WEB, LOANS, HANDS, days)
            self.worth(0, ("bound", place, 200), WEB, LOANS, HANDS, days)

    def test_hand(self):
        for place in range(4):
            self.worth(HANDS[place], ("hand", place))
            self.worth(HANDS[place] - (place == 3), ("hand", place), WEB, LOANS, HANDS, [((), ((3, None),))])
        # What comes home today is at hand, as [7.4] tells.
        self.worth(4, ("hand", 3), WEB, LOANS, HANDS, [((), ((3, (1, 3)),)), ((), ())])
        self.worth(2, ("hand", 0), TWO, ("loans", 1, 1, 0), (1, 1), [((), ((1, None),)), (((0, 0),), ())])

    def test_asked(self):
        asks = ((0, None), (2, None), (0, (1, 3)))
        for place, many in enumerate((2, 0, 1, 0)):
            self.worth(many, ("asked", place), WEB, ("loans", 3, 3, 1), HANDS, [((), asks)])
            self.worth(0, ("asked", place), WEB, ("loans", 3, 3, 1), HANDS, [((), asks), ((), ())])

    def test_told_and_away(self):
        terms = ("loans", 3, 3, 1)
        days = [((), ((0, None), (2, None), (0, (1, 3)))), ((), ((1, (1, 3)),)), (((0, 3),), ((1, None), (0, (1, 0))))]
        for many, place in [(0, 0), (1, 3), (0, 1)]:
            self.worth(many, ("told", place), WEB, terms, HANDS, days[:1])
        self.worth(1, ("told", 3), WEB, terms, HANDS, days[:2])
        # A tell counts on the day on which it is told, and not on that on which the crate comes.
        early = days[:1] + [(((0, 3), (1, 3)), ()), ((), ())]
        self.worth(2, ("told", 3), WEB, terms, HANDS, early[:2])
        self.worth(0, ("told", 3), WEB, terms, HANDS, early)
        self.worth(2, ("away",), WEB, terms, HANDS, days[:2])
        self.worth(0, ("away",), WEB, terms, HANDS, early)
        last = days[:2] + [(((0, 3), (1, 3)), ((1, None), (0, (1, 0)), (0, (1, 3))))]
        for many, expression in [(3, ("told", 3)), (1, ("told", 0)), (0, ("told", 1)), (1, ("away",))]:
            self.worth(many, expression, WEB, terms, (9, 9, 9, 9), last)

    def test_bound(self):
        terms = ("loans", 3, 9, 5)
        days = [((), ((0, (5, 2)), (1, (1, 2)), (0, None))), ((), ((0, (3, 2)), (0, (5, 1)))), ((), ())]
        for day, place, most, wanted in [
                (0, 2, 0, 0), (0, 2, 1, 1), (0, 2, 4, 1), (0, 2, 5, 2), (0, 2, 200, 2), (0, 2, MILLION, 2),
                (0, 0, 9, 0),
                (1, 2, 0, 0), (1, 2, 2, 0), (1, 2, 3, 1), (1, 2, 4, 2), (1, 1, 4, 0), (1, 1, 5, 1), (2, 2, 1, 0),
                (2, 2, 2, 1), (2, 2, 3, 2), (2, 1, 3, 0), (2, 1, 4, 1)]:
            self.worth(wanted, ("bound", place, most), WEB, terms, HANDS, days[:day + 1])
        for most in (("-", 0, 1), ("-", 0, END)):
            self.worth(0, ("bound", 2, most), WEB, terms, HANDS, days)
        self.worth(2, ("bound", 2, END), WEB, terms, HANDS, days)

    def test_bound_of_empties(self):
        """What is sent today is not under way yet; from tomorrow on it is, up to the day on which it comes."""
        web, terms = (2, ((0, 1, 200),)), ("loans", 1, 200, 200)
        house = (("if", ("=", ("day",), 0), (("send", 0, 1, 3),), ()),)
        house += tuple(("set", at, ("bound", 1, most)) for at, most in enumerate((200, 199, 198, 1, 0)))
        runner = Runner(web, terms, house, (5, 0))
        found = []
        for day in range(201):
            runner.take((), ())
            found.append(runner.cells()[:5])
        self.same(found[:3], [(0, 0, 0, 0, 0), (3, 3, 0, 0, 0), (3, 3, 3, 0, 0)])
        self.same(found[198:], [(3, 3, 3, 0, 0), (3, 3, 3, 3, 0), (0, 0, 0, 0, 0)])
        self.same(runner.moment()[0], (2, 3))

    def test_trips(self):
        days = [((), ((0, (3, 2)), (1, (2, 0)))), ((), ((2, (3, 0)),)), ((), ())]
        for day, expression, wanted in [
                (0, ("told", 2), 1), (0, ("told", 0), 1), (0, ("bound", 0, 2), 1), (0, ("bound", 0, 1), 0),
                (1, ("told", 0), 1), (1, ("told", 2), 0), (1, ("bound", 0, 3), 2), (1, ("bound", 0, 1), 1),
                (1, ("asked", 2), 1), (1, ("away",), 0), (2, ("hand", 0), 8), (2, ("told", 0), 0)]:
            self.worth(wanted, expression, FORK, TRIPS, (8, 4, 8), days[:day + 1])


class Statements(Case):

    def sends(self, house, hands=HANDS, web=WEB, terms=LOANS):
        return Runner(web, terms, house, hands).take((), ())

    def test_sends(self):
        for wanted, statement in [
                (((0, 1, 2),), ("send", 0, 1, 2)), (((1, 0, 1),), ("send", 1, 0, 1)), (((0, 2, 6),), ("send", 0, 2, 6)),
                (((0, 2, 6),), ("send", 0, 2, 7)), (((3, 2, 4),), ("send", 3, 2, MILLION)), ((), ("send", 0, 1, 0)),
                ((), ("send", 0, 1, ("-", 0, 1))), ((), ("send", 0, 1, ("-", 0, END))), ((), ("send", 0, 3, 1)),
                ((), ("send", 1, 3, 1)), ((), ("send", 0, 0, 1)), ((), ("send", 4, 0, 1)), ((), ("send", 0, 4, 1)),
                ((), ("send", ("-", 0, 1), 0, 1)), ((), ("send", 0, ("-", 0, 1), 1)), ((), ("send", END, 1, 1)),
                ((), ("send", ("-", 1, 2), ("-", 3, 4), 1)),
                (((0, 1, 1),), ("send", ("cell", 0), ("+", ("cell", 5), 1), ("hand", 1)))]:
            self.same(self.sends((statement,)), wanted, statement)

    def test_sends_are_added_up_and_rise(self):
        house = (("send", 2, 3, 1), ("send", 0, 2, 1), ("send", 2, 0, 1), ("send", 0, 1, 2), ("send", 0, 2, 2))
        self.same(self.sends(house), ((0, 1, 2), (0, 2, 3), (2, 0, 1), (2, 3, 1)))
        self.same(self.sends((("send", 0, 1, 4), ("send", 0, 2, 4))), ((0, 1, 4), (0, 2, 2)))
        self.same(self.sends((("send", 0, 1, 6), ("send", 0, 2, 4), ("send", 1, 0, 9))), ((0, 1, 6), (1, 0, 1)))

    def test_hand_is_less_what_was_sent(self):
        house = (("send", 0, 1, 4), ("send", 3, 2, ("hand", 0)), ("send", 1, 0, ("hand", 1)))
        self.same(self.sends(house), ((0, 1, 4), (1, 0, 1), (3, 2, 2)))

    def test_all_three_values_are_found_before(self):
        self.same(self.sends((("send", 0, 1, ("hand", 0)), ("set", 0, ("hand", 0)))), ((0, 1, 6),))
        house = (("send", 0, ("-", 7, ("hand", 0)), ("hand", 0)),)
        self.same(self.sends(house), ((0, 1, 6),))

    def test_no_crates(self):
        self.same(self.sends((("send", 0, 1, 1),), (0, 0, 0, 0)), ())
        self.same(self.sends((("send", 0, 1, MILLION),), (200000, 0, 0, 0)), ((0, 1, 200000),))
        self.same(self.sends((("send", 0, 0, 1),), (3,), ONE), ())

    def test_if(self):
        for value, wanted in [(0, 2), (1, 1), (("-", 0, 1), 1), (END, 1), (("=", 1, 2), 2), (("hand", 9), 2)]:
            house = (("if", value, (("send", 0, 1, 1),), (("send", 0, 1, 2),)),)
            self.same(self.sends(house), ((0, 1, wanted),), value)
        self.same(self.sends((("if", 1, (), (("send", 0, 1, 2),)), ("if", 0, (("send", 0, 1, 2),), ()))), ())

    def test_times(self):
        one_more = ("set", 1, ("+", ("cell", 1), 1))
        for many in (1, 2, 39, 40):
            runner = Runner(WEB, LOANS, (("times", 0, many, (one_more,)),), HANDS)
            runner.take((), ())
            self.same(runner.cells()[:2], (many - 1, many))
        runner = Runner(WEB, LOANS, (("times", 0, 40, (("times", 2, 40, (one_more,)),)),), HANDS)
        runner.take((), ())
        self.same(runner.cells()[:3], (39, 1600, 39))
        runner.take((), ())
        self.same(runner.cells()[:3], (39, 3200, 39))

    def test_what_the_body_does_to_the_cell(self):
        def cells_of(*house):
            runner = Runner(WEB, LOANS, house, HANDS)
            runner.take((), ())
            return runner.cells()[:3]

        one_more, seen = ("set", 1, ("+", ("cell", 1), 1)), ("set", 2, ("+", ("*", 10, ("cell", 2)), ("cell", 0)))
        self.same(cells_of(("times", 0, 4, (seen, ("set", 0, 30), one_more))), (30, 4, 123))
        self.same(cells_of(("set", 0, 7), ("times", 0, 3, ())), (2, 0, 0))
        self.same(cells_of(("times", 0, 3, (("times", 0, 5, ()), one_more))), (4, 3, 0))
        self.same(cells_of(("times", 0, 2, (("times", 0, 3, (seen, one_more)), seen))), (2, 6, 1220122))

    def test_cells_from_day_to_day(self):
        house = (("set", 15, ("+", ("cell", 15), ("day",))), ("send", 0, 1, ("cell", 15)))
        runner = Runner(WEB, LOANS, house, HANDS)
        self.same([runner.take((), ()) for _ in range(4)], [(), ((0, 1, 1),), ((0, 1, 3),), ((0, 1, 2),)])
        self.same(runner.cells(), (0,) * 15 + (6,))

    def test_the_empty_house(self):
        runner = Runner(WEB, LOANS, (), HANDS)
        self.same(runner.take((), ((3, None),)), ())
        self.same(runner.cells(), (0,) * 16)


class Runners(Case):

    def test_at_first(self):
        runner = Runner(WEB, LOANS, (STAY,), HANDS)
        self.same([runner.moment(), runner.cells(), runner.run()], [first_moment(WEB, HANDS), (0,) * 16, (HANDS, ())])

    def test_refusals(self):
        self.refuses_in_order(
            Runner, (WEB, WEB_FAULTS), (LOANS, TERMS_FAULTS), ((STAY,), HOUSE_FAULTS), (HANDS, HANDS_FAULTS))

    def at_work(self):
        """A runner that has two loans away, of which the first must be told."""
        house = (("set", 0, ("+", ("cell", 0), 1)), ("send", 0, 1, 1), ("send", 1, 0, ("hand", 1)))
        runner = Runner(WEB, ("loans", 2, 3, 1), house, HANDS)
        runner.take((), ((2, None), (2, (1, 0))))
        runner.take((), ((0, None),))
        return runner

    def test_refused_days(self):
        runner = self.at_work()
        before = runner.moment(), runner.cells(), runner.run()
        self.same(before[0][2], ((1, None), (2, None)))
        lacking = ((2, None), (2, None))
        for tells, error, what in [
                (None, BadTells, -1), ([], BadTells, -1), (((0, 4),), BadTells, 0), (((0, True),), BadTells, 0),
                (((2, 0),), BadTells, 0), (((0, 1), (0, 1)), BadTells, 1), ((None,), BadTells, 0)]:
            for asks in ((), None, lacking):
                self.refuses(error, what, runner.take, tells, asks)
        for asks, error, what in ASKS_FAULTS:
            self.refuses(error, what, runner.take, (), asks)
            self.refuses(error, what, runner.take, ((0, 1),), asks)
        self.refuses(Untold, 0, runner.take, (), ())
        self.refuses(Untold, 0, runner.take, ((1, 1),), lacking)
        self.refuses(Lacks, 0, runner.take, ((0, 1),), lacking)
        self.refuses(Lacks, 1, runner.take, ((0, 1),), ((3, None), (2, None)))
        self.same((runner.moment(), runner.cells(), runner.run()), before)
        runner.take(((0, 2),), ((3, None),))
        self.same(runner.cells()[0], 3)

    def test_600_days(self):
        runner = Runner(WEB, LOANS, (("set", 0, ("day",)),), HANDS)
        for _ in range(599):
            runner.take((), ())
        runner.take((), ((3, None),))
        before = runner.moment(), runner.cells(), runner.run()
        self.same([before[1][0], len(before[2][1])], [599, 600])
        self.refuses(TooMany, 601, runner.take, (), ())
        self.refuses(TooMany, 601, runner.take, ((0, 1),), ((3, None),))
        self.refuses(BadTells, 0, runner.take, ((1, 1),), None)
        self.refuses(BadAsks, 0, runner.take, (), (None,))
        self.refuses(Lacks, 0, Runner(ONE, LOANS, (), (0,)).take, (), ((0, None),))
        self.same((runner.moment(), runner.cells(), runner.run()), before)
        self.assertIs(is_run(WEB, LOANS, runner.run()), True)

    def test_the_601st_day_is_refused_last(self):
        terms = ("loans", 1, 1, 0)
        runner = Runner(ONE, terms, (), (1,))
        for day in range(600):
            runner.take(((0, 0),) if day else (), ((0, None),))
        self.refuses(Untold, 0, runner.take, (), ())
        self.refuses(TooMany, 601, runner.take, ((0, 0),), ((0, None),))
        runner = Runner(TWO, terms, (), (1, 0))
        for day in range(600):
            runner.take((), ())
        self.refuses(Lacks, 0, runner.take, (), ((1, None),))

    def test_two_runners_share_nothing(self):
        one, other = self.at_work(), self.at_work()
        one.take(((0, 1),), ())
        self.assertNotEqual(one.moment(), other.moment())
        self.assertNotEqual(one.cells(), other.cells())

    def test_what_is_returned_stays(self):
        runner = self.at_work()
        told = [runner.moment(), runner.cells(), runner.run()]
        self.same(told, [self.at_work().moment(), self.at_work().cells(), self.at_work().run()])
        again = [runner.moment(), runner.cells(), runner.run()]
        self.assertFalse(any(one is other for one, other in zip(told, again)))
        runner.take(((0, 1),), ())
        self.same(told, again)

    def test_by_name(self):
        house = (("send", 0, 1, 1),)
        runner = Runner(hands=HANDS, house=house, terms=LOANS, web=WEB)
        self.same(runner.take(asks=((3, None),), tells=()), ((0, 1, 1),))
        self.same(runner.moment()[2], ((2, None),))

    def test_forty_places_and_twenty_asks(self):
        web, terms = alike(40, 200), ("loans", 20, 200, 200)
        house = (("times", 0, 40, (("send", 0, ("cell", 0), ("asked", 0)),)),)
        runner = Runner(web, terms, house, (1000,) + (0,) * 39)
        sends = runner.take((), ((0, (200, 39)),) * 20)
        self.same(sends, tuple((0, place, 20) for place in range(1, 40)))
        self.same(runner.moment()[1], tuple((199, place, 20) for place in range(1, 40)))
        self.same(runner.moment()[2], ((199, 39),) * 20)

    def test_the_longest_way(self):
        runner = Runner(PAIR, LOANS, (("send", 0, 1, 1),), (1, 0))
        self.same(runner.take((), ()), ((0, 1, 1),))
        self.same(runner.moment(), ((0, 0), ((6, 1, 1),), ()))


if __name__ == "__main__":
    unittest.main()
