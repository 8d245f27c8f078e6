"""A web of 40 places with all 780 ways is answered without delay."""

import random
import time
import unittest
from itertools import combinations

from treeandtrip import clusters, days, desk, foe, games, houses, housetexts, hunt, kernel, live, lost, moments, numbers
from treeandtrip import plain, runner, runs, runtexts, swaps, terms, trees, webs, webtexts, worths
from treeandtrip.errors import BadText, Long, TooDeep
from tests.samples import BIG, BIG_ALIKE, ONE, Case
from tests.text_samples import NAMES

SECONDS = 2
# For what does some hundred days, one behind another.
SECONDS_FOR_MANY_DAYS = 12
LOANS = ("loans", 20, 200, 0)
TRIPS = ("trips", 20, tuple(tuple(0 if a == b else 1 + (a * b) % 200 for b in range(40)) for a in range(40)))


def busy_run(k, longest, told, many=600):
    """A run of so many days on 40 places with all ways, with as many asks as there can be and 40 sends on each day."""
    done = []
    for day in range(many):
        # The asks of this day are those that must be told today; loans that are home have left the list.
        asked, first = day - longest + told, max(0, day - longest)
        must = range(k * (asked - first), k * (asked - first + 1)) if asked >= 0 and told < longest else ()
        tells = tuple((index, (index + day) % 40) for index in must)
        asks = tuple(((day + at) % 40, None if told < longest else (longest, at)) for at in range(k))
        sends = tuple((u, v, 2) for u in range(40) for v in [(u + 1 + day) % 40] if u != v)
        done.append((tells, asks, sends))
    return (5000,) * 40, tuple(done)


class Speed(Case):

    def quick(self, function, *arguments):
        return self.within(SECONDS, function, *arguments)

    def steady(self, function, *arguments):
        return self.within(SECONDS_FOR_MANY_DAYS, function, *arguments)

    def within(self, seconds, function, *arguments):
        begun = time.perf_counter()
        found = function(*arguments)
        self.assertLess(time.perf_counter() - begun, seconds, function.__name__)
        return found

    def test_webs(self):
        for web in (BIG, BIG_ALIKE):
            self.quick(webs.made_web, web)
            self.quick(webs.is_web, web)
            self.quick(webs.near, web, 39)
            self.quick(webs.days_between, web, 38, 39)
            self.quick(webs.with_way, web, 38, 39, 1)
            self.quick(webs.without_way, web, 38, 39)
            self.quick(webs.without_place, web, 0)
            self.quick(webs.renamed, web, tuple(reversed(range(40))))

    def test_trees(self):
        for web in (BIG, BIG_ALIKE):
            tree = self.quick(trees.least_tree, web)
            self.quick(trees.made_tree, web, tree)
            self.quick(trees.is_tree, web, tree)
            self.quick(trees.tree_length, web, tree)
            self.quick(trees.tree_longest, web, tree)
            self.quick(trees.road, web, tree, 39, 1)
            self.quick(trees.hung, web, 39, 1)
            self.quick(trees.cut, web, tree, 38)
            self.quick(trees.across, web, tuple(range(20)))
            self.quick(swaps.exchanges, web, tuple(way for way in web[1] if way[1] == 39), tree)

    def test_clusters(self):
        whole = tuple(range(40))
        for web in (BIG, BIG_ALIKE):
            self.quick(clusters.made_lot, web, whole)
            self.quick(clusters.parts, web, 200)
            self.quick(clusters.clusters, web)
            self.quick(clusters.is_cluster, web, whole)
            self.quick(clusters.joined_at, web, whole)
            self.quick(clusters.opens_at, web, whole)
            self.quick(clusters.children, web, whole)
            self.quick(clusters.inner, web, whole)
            self.quick(clusters.moats, web)

    def test_each_cluster_by_itself(self):
        """The four functions of [3.2], and `is_cluster`, of all clusters of a web in less than a second."""
        draw = random.Random(6)
        drawn = (40, tuple((u, v, draw.randint(1, 200)) for u, v in combinations(range(40), 2)))
        steps = (40, tuple((0, i, 1 + i * 31 % 200) for i in range(1, 40)))
        for web in (steps, drawn, BIG):
            lots = clusters.clusters(web)
            begun = time.perf_counter()
            for lot in lots:
                clusters.joined_at(web, lot)
                clusters.opens_at(web, lot)
                clusters.children(web, lot)
                clusters.inner(web, lot)
            self.assertLess(time.perf_counter() - begun, 1)
            begun = time.perf_counter()
            self.assertTrue(all(clusters.is_cluster(web, lot) for lot in lots))
            self.assertLess(time.perf_counter() - begun, 1)

    def test_numbers(self):
        for web in (BIG, BIG_ALIKE):
            tree = trees.least_tree(web)
            for given in (LOANS, TRIPS):
                self.quick(terms.made_terms, web, given)
                self.quick(terms.is_terms, web, given)
                self.quick(terms.most_asks, web, given)
                self.quick(terms.longest_loan, web, given)
                self.quick(terms.notice, web, given)
                self.quick(numbers.reserve, web, given, tree)
                self.quick(numbers.tree_needed, web, given, tree)
                self.quick(numbers.needed, web, given)
                self.quick(numbers.summands, web, given)
                self.quick(numbers.first_hands, web, given, tree, 39)

    def test_worths(self):
        offers = tuple((at, 39, 1, at) for at in range(10))
        for web in (BIG, BIG_ALIKE):
            self.quick(worths.free_ways, web)
            self.quick(worths.loan_gain, web, LOANS)
            self.quick(worths.place_gain, webs.without_place(web, 39), LOANS, ((0, 1), (38, 200)))
            for given in (LOANS, TRIPS):
                self.quick(worths.way_gain, web, given, 38, 39, 1)
                self.quick(worths.notice_gain, web, given)
                self.quick(worths.buys, web, given, offers, 0)

    def test_moments_and_days(self):
        hands = (1000,) * 40
        for web in (BIG, BIG_ALIKE):
            for told in (0, 100, 200):
                given = ("loans", 20, 200, told)
                empties = tuple((left, place, 10) for left in range(200) for place in range(40))
                loans = tuple((at // 20, None if at // 20 >= told else at % 40) for at in range(4000))
                moment = self.quick(moments.made_moment, web, given, (hands, empties, loans))
                self.quick(moments.is_moment, web, given, moment)
                self.quick(moments.count_of, moment)
                tells = tuple((at, at % 40) for at in range(20 * told, 4000))
                self.quick(days.made_tells, web, given, moment, tells)
                self.quick(days.opened, web, given, moment, tells, ())
                sends = tuple((u, v, 1) for u in range(40) for v in range(40) if u != v)
                self.quick(days.after_day, web, given, moment, (tells, (), sends))

    def test_runs(self):
        for k, longest, told in ((20, 30, 10), (2, 200, 0), (20, 5, 5)):
            given, run = ("loans", k, longest, told), busy_run(k, longest, told)
            self.assertIs(self.steady(runs.is_run, BIG, given, run), True)
            found = self.steady(runs.moments, BIG, given, run)
            self.assertEqual([len(found), len(found[-1][2])], [601, k * longest])

    def test_papers_and_the_foe(self):
        for web in (BIG, BIG_ALIKE):
            tree = trees.least_tree(web)
            for given in (LOANS, TRIPS, ("loans", 20, 200, 200), ("loans", 1, 1, 1)):
                least = numbers.first_hands(web, given, tree, 0)
                for moment in ((least, (), ()), (least[:39] + (least[39] - 1,), (), ()), ((0,) * 40, (), ())):
                    paper = self.quick(lost.lost_paper, web, given, moment)
                    tells, asks = self.quick(foe.foe_day, web, given, moment)
                    if paper is not None:
                        self.assertIs(self.quick(kernel.lost_right, web, given, moment, paper[1], paper[0]), True)
                    self.quick(kernel.due_in, web, given, moment, tuple(range(40)), 400)
                    self.quick(kernel.lack_right, web, given, (moment[0], ()), tells, asks)
                self.assertIs(self.quick(kernel.standing_right, web, given, least, tree, 0), True)
            self.assertIs(self.quick(kernel.moats_right, web, clusters.moats(web)), True)
            self.assertIs(self.quick(kernel.least_paper, web, tree, clusters.moats(web)), True)

    def test_a_full_moment(self):
        empties = tuple((left, place, 10) for left in range(200) for place in range(40))
        for web in (BIG, BIG_ALIKE):
            moment = ((1000,) * 40, empties, tuple((at // 20, None) for at in range(4000)))
            self.quick(lost.lost_paper, web, LOANS, moment)
            self.quick(foe.foe_day, web, LOANS, moment)

    def test_doomed(self):
        self.steady(lost.doomed, BIG, ("loans", 20, 30, 10), busy_run(20, 30, 10, 100))
        self.assertIs(self.steady(lost.doomed, BIG, ("loans", 1, 1, 1), ((5000,) * 40, (((), (), ()),) * 600)), None)

    def test_houses(self):
        stay = ("set", 0, ("+",) + (("-", ("*", ("day",), 3), ("min", ("hand", 1), 2)),) * 2)
        self.quick(houses.made_house, (("times", 0, 40, (stay,) * 199),))
        self.assertIs(self.quick(houses.is_house, (stay,) * 100000), False)

    def test_a_plain_house_of_forty_places(self):
        for web in (BIG, BIG_ALIKE):
            tree = trees.least_tree(web)
            for given in (("loans", 20, 30, 10), ("loans", 2, 200, 0), TRIPS):
                self.steady(self.plain_days, web, given, tree)

    def plain_days(self, web, given, tree):
        """600 days with as many asks as can be, half of them at one place."""
        draw = random.Random(14)
        house = plain.Plain(web, given, tree, 7)
        k, longest, told = terms.most_asks(web, given), terms.longest_loan(web, given), terms.notice(web, given)
        for day in range(600):
            must = [index for index, loan in enumerate(house.moment()[2]) if loan == (told, None)]
            places = [draw.choice([day % 39, draw.randrange(39)]) for _ in range(k)]
            backs = [(given[2][place][39], 39) for place in places] if given is TRIPS else [None] * k
            house.take(tuple((index, draw.randrange(40)) for index in must), tuple(zip(places, backs)))
        self.assertEqual([len(house.run()[1]), moments.count_of(house.moment())],
                         [600, numbers.tree_needed(web, given, tree)])
        other = plain.resumed(web, given, tree, 7, house.moment(), house.book())
        self.assertEqual((other.owed(), other.moment()), (house.owed(), house.moment()))

    def test_runners(self):
        deep = ("-", ("min", ("hand", ("cell", 1)), 3), ("bound", ("cell", 2), ("day",)))
        flat = tuple([("send", at % 40, (at + 1) % 40, deep) for at in range(100)] + [("set", 1, deep)] * 100)
        loops = (("times", 0, 40, (("times", 1, 40, (("send", ("cell", 0), ("cell", 1), ("asked", ("cell", 1))),)),)),)
        for house, many in ((flat, 600), (loops, 300)):
            self.steady(self.runner_days, house, many)

    def runner_days(self, house, many):
        busy = runner.Runner(BIG, ("loans", 5, 20, 20), house, (5000,) * 40)
        for day in range(many):
            busy.take((), tuple(((day + at) % 40, (20, at)) for at in range(5)))
        self.assertEqual(len(busy.run()[1]), many)

    def test_hunts(self):
        stay = ("set", 0, ("hand", ("cell", 0)))
        for web in (BIG, BIG_ALIKE):
            enough = tuple(2000 for _ in range(40))
            self.assertIs(self.steady(hunt.hunted, web, ("loans", 5, 200, 100), (stay,) * 200, enough), None)
            least = numbers.first_hands(web, LOANS, trees.least_tree(web), 0)
            self.assertIsNotNone(self.steady(hunt.hunted, web, LOANS, (stay,) * 200, (least[0] - 1,) + least[1:]))

    def test_live_runs(self):
        hands, done = busy_run(5, 20, 5)
        self.steady(self.live_days, hands, done)

    def live_days(self, hands, done):
        long = live.Live(BIG, ("loans", 5, 20, 5), hands)
        for day in done:
            long.take(day)
        for _ in done:
            long.back()
        for _ in done:
            long.again()
        self.assertEqual(long.run(), (hands, done))
        self.assertIs(long.paper() is None, True)

    def test_texts(self):
        for web in (BIG, BIG_ALIKE):
            text = self.quick(webtexts.print_web, web, NAMES)
            self.assertEqual(self.quick(webtexts.read_web, text), (NAMES, web))
            self.assertEqual(self.quick(webtexts.read_terms, web, webtexts.print_terms(web, TRIPS)), TRIPS)
        for what, text in ((0, "1" * 60000), (60000, "a" * 60001), (0, "x " * 29999), (7, "places " + "1" * 50000)):
            self.quick(self.refuses, BadText, what, webtexts.read_web, text)

    def test_texts_of_houses_and_runs(self):
        sums = "set c0: " + "1+" * 29000 + "1"
        self.quick(self.refuses, TooDeep, 0, housetexts.read_house, BIG, NAMES, sums)
        part = ("cell", 3)
        for _ in range(7):
            part = ("+", part, part)
        self.quick(self.refuses, Long, 0, housetexts.print_house, BIG, NAMES, (("set", 0, part),) * 200)
        flat = (("send", ("cell", 1), 3, ("-", ("hand", 4), ("bound", 5, 6))),) * 200
        self.assertEqual(housetexts.read_house(BIG, NAMES, self.quick(housetexts.print_house, BIG, NAMES, flat)), flat)
        given, run = ("loans", 5, 20, 5), busy_run(5, 20, 5)
        self.steady(self.refuses, Long, 0, runtexts.print_run, BIG, NAMES, given, run)
        text = "hands" + " 5000" * 40 + "; day ask hill send hill to dale 1" * 600
        found = self.steady(runtexts.read_run, BIG, NAMES, ("loans", 1, 200, 0), text.replace(" ask hill", ""))
        self.assertEqual(len(found[1]), 600)

    def test_a_desk(self):
        row = desk.Desk().row
        self.assertEqual(self.quick(row, "web " + webtexts.print_web(BIG, NAMES)), "40 places, 780 ways")
        self.assertEqual(self.quick(row, "terms loans 20 a day, 200 days, 0 ahead"), "ok")
        for text in (
                "number", "tree", "moats", "free", "gain hill dale 1", "notice", "loan", "plain hill", "foe", "lost"):
            self.assertFalse(self.quick(row, text).startswith("refused"), text)
        for _ in range(200):
            self.assertFalse(row("next ask " + ", ".join(NAMES[:5])).startswith("refused"))
        self.assertGreater(len(self.quick(row, "log")), 20000)

    def test_games(self):
        for web, given in ((ONE, ("loans", 1, 4, 0)), ((2, ((0, 1, 2),)), ("loans", 1, 2, 2))):
            self.assertEqual([self.quick(games.keepable, web, given, many) for many in (3, 4, 5)], [False, True, True])


if __name__ == "__main__":
    unittest.main()
