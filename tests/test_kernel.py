"""The kernel: [9], [9.1], [9.2] and [9.3]."""

import random
import unittest
from itertools import combinations, product

from treeandtrip.clusters import clusters, inner, is_cluster, joined_at, moats, opens_at
from treeandtrip.days import opened
from treeandtrip.errors import BadLot, BadMany, Refused
from treeandtrip.kernel import due_in, lack_right, least_paper, lost_right, moats_right, standing_right
from treeandtrip.moments import first_moment
from treeandtrip.numbers import first_hands
from treeandtrip.runs import moments
from treeandtrip.trees import least_tree, tree_length, tree_longest
from tests.day_samples import ASKS_FAULTS, HANDS, HANDS_FAULTS, MOMENT, MOMENT_FAULTS, RUN, RUN_FAULTS, SOME, TELLS
from tests.day_samples import TELLS_FAULTS, TWO_ASKS, crates_of, drawn_asks, drawn_moment, drawn_run, drawn_tells
from tests.day_samples import numbers_of, terms_for
from tests.samples import BIG, BIG_ALIKE, DRAWN, LEAST, LOANS, LOT_FAULTS, NO_NUMBERS, NO_PLACES, ODD, ONE, ORDINARY
from tests.samples import OTHER, PAIR, TERMS_FAULTS, THREE, TREE_FAULTS, WEB, WEB_FAULTS, Case, all_trees, length
from tests.samples import longest, ring, row

H_FAULTS = [(thing, BadMany, 0) for thing in NO_NUMBERS + [-1, 401, 10 ** 40]]
FAR = ((13, 0, 0, 0), (), ())


def all_lots(n):
    return [lot for many in range(1, n + 1) for lot in combinations(range(n), many)]


class DueIn(Case):

    def test_by_the_words(self):
        draw = random.Random(90)
        for web in SOME[:14]:
            for terms in terms_for(web):
                moment = drawn_moment(draw, web, terms)
                for lot in all_lots(web[0])[::3] + [tuple(range(web[0]))]:
                    for h in (0, 1, 2, 5, 198, 199, 400):
                        due = [what for what, days, place in crates_of(moment) if place in lot and days <= h]
                        self.same(due_in(web, terms, moment, lot, h), len(due))

    def test_untold_loans_are_never_counted(self):
        for told in (0, 1, 2):
            moment = ((0, 0), (), ((2, None), (2, None)))
            for lot in ((0,), (1,), (0, 1)):
                self.same(due_in(PAIR, ("loans", 1, 3, told), moment, lot, 400), 0)

    def test_edges(self):
        moment = ((3, 0), ((0, 0, 5), (1, 1, 70), (199, 0, 100)), ((0, 1), (1, 0), (199, 1)))
        terms = ("loans", 1, 200, 200)
        for h, first, second in ((0, 8, 1), (1, 9, 71), (198, 9, 71), (199, 109, 72), (400, 109, 72)):
            self.same(due_in(PAIR, terms, moment, (0,), h), first)
            self.same(due_in(PAIR, terms, moment, (1,), h), second)
            self.same(due_in(PAIR, terms, moment, (0, 1), h), first + second)
        self.same(due_in(ONE, LOANS, ((200000,), (), ()), (0,), 0), 200000)
        self.same(due_in(BIG, LOANS, ((1,) * 40, (), ()), tuple(range(0, 40, 2)), 0), 20)

    def test_refusals(self):
        self.refuses_in_order(
            due_in, (WEB, WEB_FAULTS), (TWO_ASKS, TERMS_FAULTS), (MOMENT, MOMENT_FAULTS), ((1, 2), LOT_FAULTS),
            (3, H_FAULTS))
        self.refuses(BadLot, 0, due_in, ONE, LOANS, ((1,), (), ()), (1,), 0)
        self.by_name(due_in, web=WEB, terms=TWO_ASKS, moment=MOMENT, lot=(0, 2), h=1)


class LostRight(Case):

    def wanted(self, web, terms, moment, lot, h):
        """[9.1], word by word."""
        if not is_cluster(web, lot) or len(lot) == web[0]:
            return False
        if h < 0 or not joined_at(web, lot) - 1 <= h <= opens_at(web, lot) - 1:
            return False
        return due_in(web, terms, moment, lot, h) < numbers_of(terms)[0] * (inner(web, lot) + h + 1)

    def test_by_the_words(self):
        draw = random.Random(91)
        told = set()
        for web in SOME[:18]:
            for terms in terms_for(web):
                for most in (0, 2, 5):
                    moment = drawn_moment(draw, web, terms, most)
                    for lot in all_lots(web[0])[::2] + list(clusters(web)):
                        for h in range(-1, 7):
                            wanted = self.wanted(web, terms, moment, lot, h)
                            self.assertIs(lost_right(web, terms, moment, lot, h), wanted)
                            told.add((wanted, len(lot) > 1))
        self.assertEqual(len(told), 4)

    def test_the_bounds_of_h(self):
        moment = first_moment(WEB, (0, 0, 0, 0))
        for lot, bounds in {(0,): (0, 0), (2,): (0, 1), (3,): (0, 3), (0, 1): (0, 1), (0, 1, 2): (1, 3)}.items():
            for h in range(-2, 9):
                self.assertIs(lost_right(WEB, LOANS, moment, lot, h), bounds[0] <= h <= bounds[1])
        far = (2, ((0, 1, 200),))
        for h in (0, 198, 199, 200, 201, 400):
            self.assertIs(lost_right(far, LOANS, first_moment(far, (0, 500)), (0,), h), h <= 199)
            self.assertIs(lost_right(far, LOANS, first_moment(far, (0, 500)), (1,), h), False)
            self.assertIs(lost_right(far, LOANS, first_moment(far, (500, 0)), (0, 1), h), False)

    def test_how_many_crates(self):
        """The example of [9.4], and as many with k asks a day."""
        for k in (1, 2, 20):
            terms = ("loans", k, 3, 1)
            for many in (0, 2 * k - 1, 2 * k, 3 * k - 1, 3 * k, 5 * k):
                moment = ((many // 2, 0, 90, 9), ((1, 1, many - many // 2), (2, 0, 90)) if many else (), ())
                self.assertIs(lost_right(WEB, terms, moment, (0, 1), 1), many < 3 * k)
                self.assertIs(lost_right(WEB, terms, moment, (0, 1), 2), False)
                there = ((many // 2, many - many // 2, 90, 9), (), ())
                self.assertIs(lost_right(WEB, terms, there, (0, 1), 0), many < 2 * k)

    def test_no_papers(self):
        for lot in ((0,), (1,), (0, 1)):
            for h in (0, 1):
                self.assertIs(lost_right(ONE, LOANS, ((0,), (), ()), lot, h), False)
        for h in range(9):
            self.assertIs(lost_right(WEB, LOANS, FAR, (1, 2), h), False)
            self.assertIs(lost_right(WEB, LOANS, FAR, (1, 2, 3), h), False)
            self.assertIs(lost_right(WEB, LOANS, FAR, (0, 1, 2, 3), h), False)

    def test_judge_takes_anything(self):
        good = (WEB, LOANS, FAR, (2,), 1)
        self.assertIs(lost_right(*good), True)
        lots = [(thing, BadLot, 0) for thing in [(2, 2), (True,), (2, 1)]]
        judged_wrong(self, lost_right, good, WEB_FAULTS, TERMS_FAULTS, MOMENT_FAULTS, LOT_FAULTS + lots, H_FAULTS)
        self.assertIs(lost_right(WEB, LOANS, FAR, (2,), True), False)
        self.assertIs(lost_right(WEB, LOANS, FAR, (2,), False), False)
        self.by_name(lost_right, web=WEB, terms=LOANS, moment=FAR, lot=(2,), h=1)


def judged_wrong(case, judge, good, *faults):
    """The judge says False, and raises nothing, with any odd thing in the place of an argument, and of two.

    The empty tuple is not odd where it stands among the good arguments, nor as a list of moats.
    """
    for at, wrong in enumerate(faults):
        odd = [thing for thing, _, _ in wrong] + [thing for thing in ODD if thing not in (good[at], ())]
        for thing in odd:
            case.assertIs(judge(*good[:at], thing, *good[at + 1:]), False, (judge.__name__, at, thing))
    for at, later in combinations(range(len(good)), 2):
        for first, second in product(ODD, ODD):
            arguments = list(good)
            arguments[at], arguments[later] = first, second
            if (first, second) != (good[at], good[later]):
                case.assertIs(judge(*arguments), False, (judge.__name__, arguments))


def moats_by_words(web, thing):
    """Whether pairs of lots and days are right moats, with sets of places."""
    n, ways = web
    lots = [set(lot) for lot, _ in thing]
    if any(days < 1 for _, days in thing) or any(len(lot) == n for lot in lots):
        return False
    for one, other in combinations(lots, 2):
        if one == other or one & other and not one < other and not other < one:
            return False
    for u, v, d in ways:
        for end, far in ((u, v), (v, u)):
            if sum(days for lot, days in thing if end in lot and far not in lot) > d:
                return False
    return True


class MoatsRight(Case):

    def test_moats_of_webs(self):
        for web in ORDINARY + [BIG, BIG_ALIKE, row(40), ring(40)]:
            right = moats(web)
            self.assertIs(moats_right(web, right), True)
            self.assertIs(moats_right(web, tuple(reversed(right))), True)
            self.assertIs(moats_right(web, ()), True)
            for at in range(len(right)):
                lot, days = right[at]
                self.assertIs(moats_right(web, right[:at] + right[at + 1:]), True)
                # One day more is too many on the quickest way out of the lot.
                more = right[:at] + ((lot, days + 1),) + right[at + 1:]
                self.assertIs(moats_right(web, more), False)
                self.assertIs(moats_right(web, right + (right[at],)), False)
                self.assertIs(moats_right(web, right + ((lot, 1),)), False)

    def test_by_the_words(self):
        draw = random.Random(92)
        told = set()
        for web in DRAWN + [WEB, THREE, PAIR]:
            lots = all_lots(web[0])
            for _ in range(60):
                many = draw.choice([1, 1, 2, 2, 3, 4])
                thing = tuple((draw.choice(lots), draw.randint(1, 2)) for _ in range(many))
                wanted = moats_by_words(web, thing)
                self.assertIs(moats_right(web, thing), wanted)
                told.add((wanted, many))
        self.assertEqual(len(told), 8)

    def test_lots_that_are_no_clusters(self):
        self.assertIs(moats_right(WEB, (((1, 2), 1), ((0,), 1))), True)
        self.assertIs(moats_right(WEB, (((1, 2), 2),)), False)
        self.assertIs(moats_right(WEB, (((1, 2), 1),)), True)
        self.assertIs(moats_right(WEB, (((0, 3), 1),)), True)
        self.assertIs(moats_right(WEB, (((0, 3), 1), ((0,), 1))), False)
        self.assertIs(moats_right(WEB, (((0, 3), 1), ((3,), 3))), True)
        self.assertIs(moats_right(WEB, (((0, 1, 2), 4),)), True)
        self.assertIs(moats_right(WEB, (((0, 1, 2), 5),)), False)
        self.assertIs(moats_right(WEB, (((3,), 4), ((0, 1, 2), 4))), True)

    def test_judge_takes_anything(self):
        right = moats(WEB)
        things = [None, True, 1, "moats", [], list(right), right + (None,), right + ((),), right + (((0, 1),),)]
        things += [((lot, 1),) for lot, _, _ in LOT_FAULTS] + [(((0,), days),) for days in NO_NUMBERS]
        things += [(((0,), days),) for days in (0, -1, 2, 10 ** 40)] + [[((0,), 1)], (([0], 1),), ([(0,), 1],)]
        things += [(((0, 1, 2, 3), 1),), (((0,), 1, 1),), (((0,), 1), ((True,), 1)), (((0,), True),)]
        judged_wrong(self, moats_right, (WEB, right), WEB_FAULTS, [(thing, None, 0) for thing in things])
        self.assertIs(moats_right(ONE, ()), True)
        self.assertIs(moats_right(ONE, (((0,), 1),)), False)
        self.assertIs(moats_right(BIG, tuple(((at % 40,), 1) for at in range(100000))), False)
        self.by_name(moats_right, web=WEB, thing=right)


class LeastPaper(Case):

    def test_trees(self):
        for web in SOME + [THREE]:
            least = tree_length(web, least_tree(web)) + tree_longest(web, least_tree(web))
            for tree in all_trees(web)[:40]:
                right = length(tree) + longest(tree) == least
                self.assertIs(least_paper(web, tree, moats(web)), right)
                self.assertIs(least_paper(web, tree, moats(web)[1:]), web[0] == 1)
                self.assertIs(least_paper(web, tree, ()), web[0] == 1)

    def test_longer_trees(self):
        """Moats that add up to what a longer tree has are not right."""
        more = moats(WEB)[:-1] + (((0, 1, 2), 3),)
        self.assertEqual(sum(days for _, days in more), length(OTHER) + longest(OTHER))
        self.assertIs(least_paper(WEB, OTHER, more), False)
        self.assertIs(least_paper(WEB, OTHER, moats(WEB)), False)
        self.assertIs(least_paper(WEB, LEAST, tuple(reversed(moats(WEB)))), True)
        self.assertIs(least_paper(BIG, least_tree(BIG), moats(BIG)), True)

    def test_other_moats(self):
        self.assertIs(least_paper(PAIR, PAIR[1], (((0,), 7), ((1,), 7))), True)
        self.assertIs(least_paper(PAIR, PAIR[1], (((0,), 6), ((1,), 7))), False)
        one_side = (((0,), 1), ((1,), 1), ((2,), 2), ((0, 1), 1), ((3,), 4), ((0, 1, 2), 2))
        self.assertIs(least_paper(WEB, LEAST, one_side), True)

    def test_judge_takes_anything(self):
        wrong = [(thing, None, 0) for thing in [None, True, (), moats(WEB)[1:], list(moats(WEB)), moats(PAIR)]]
        judged_wrong(self, least_paper, (WEB, LEAST, moats(WEB)), WEB_FAULTS, TREE_FAULTS, wrong)
        self.by_name(least_paper, web=WEB, tree=LEAST, thing=moats(WEB))


class StandingRight(Case):

    def test_hands(self):
        for web in SOME[:12]:
            for terms in terms_for(web):
                for tree in all_trees(web)[:3]:
                    for root in range(web[0]):
                        self.check(web, terms, tree, root, first_hands(web, terms, tree, root))

    def check(self, web, terms, tree, root, first):
        self.assertIs(standing_right(web, terms, first, tree, root), True)
        self.assertIs(standing_right(web, terms, tuple(many + 3 for many in first), tree, root), True)
        for at in range(web[0]):
            fewer = first[:at] + (first[at] - 1,) + first[at + 1:]
            self.assertIs(standing_right(web, terms, fewer, tree, root), False)
            more = tuple(many + 9 * (place != at) for place, many in enumerate(fewer))
            self.assertIs(standing_right(web, terms, more, tree, root), False)

    def test_edges(self):
        self.assertIs(standing_right(ONE, ("loans", 20, 200, 0), (4000,), (), 0), True)
        self.assertIs(standing_right(ONE, ("loans", 20, 200, 0), (3999,), (), 0), False)
        self.assertIs(standing_right(PAIR, LOANS, (199000, 1000), PAIR[1], 0), True)
        self.assertIs(standing_right(PAIR, LOANS, (199000, 1001), PAIR[1], 0), False)
        self.assertIs(standing_right(PAIR, LOANS, (200001, 1000), PAIR[1], 0), False)

    def test_judge_takes_anything(self):
        faults = [(thing, None, 0) for thing in NO_PLACES + [1, 2, 3]]
        judged_wrong(
            self, standing_right, (WEB, LOANS, HANDS, LEAST, 0), WEB_FAULTS, TERMS_FAULTS, HANDS_FAULTS, TREE_FAULTS,
            faults)
        self.by_name(standing_right, web=WEB, terms=LOANS, hands=HANDS, tree=LEAST, root=0)


class LackRight(Case):

    def test_by_the_words(self):
        draw = random.Random(93)
        told = set()
        for seed, web in enumerate(SOME):
            for terms in terms_for(web):
                run = drawn_run(seed, web, terms, 4, tuple(draw.randint(0, 2) for _ in range(web[0])))
                moment = moments(web, terms, run)[-1]
                tells = drawn_tells(draw, web, terms, moment)[draw.randint(0, 3) // 3:]
                places = [draw.randrange(web[0]) for _ in range(draw.randint(0, 3))]
                asks = drawn_asks(draw, web, terms, places)
                wanted = self.lacks_last(web, terms, moment, tells, asks)
                self.assertIs(lack_right(web, terms, run, tells, asks), wanted)
                told.add(wanted)
        self.assertEqual(told, {True, False})

    def lacks_last(self, web, terms, moment, tells, asks):
        try:
            opened(web, terms, moment, tells, asks)
        except Refused as error:
            return (type(error).__name__, error.what) == ("Lacks", len(asks) - 1)
        return False

    def test_which_ask_lacks(self):
        terms = ("loans", 3, 3, 1)
        run = ((2, 0, 1, 0), ())
        for places, right in {
                (): False, (1,): True, (0,): False, (0, 0, 0): True, (0, 0, 1): True, (0, 1, 0): False, (1, 1): False,
                (2, 2): True, (2, 0, 2): True, (1, 0, 0): False}.items():
            self.assertIs(lack_right(WEB, terms, run, (), tuple((place, None) for place in places)), right)

    def test_other_errors(self):
        quick, run = ("loans", 1, 1, 0), ((1, 1), (((), ((0, None),), ()),))
        lack = ((0, None),)
        self.assertIs(lack_right(PAIR, quick, run, ((0, 1),), lack), True)
        self.assertIs(lack_right(PAIR, quick, run, ((0, 0),), lack), False)
        self.assertIs(lack_right(PAIR, quick, run, (), lack), False)
        self.assertIs(lack_right(PAIR, quick, run, ((0, 2),), lack), False)
        self.assertIs(lack_right(PAIR, quick, run, ((0, 1),), lack * 2), False)
        self.assertIs(lack_right(PAIR, quick, ((0, 1), run[1]), ((0, 1),), lack), False)
        self.assertIs(lack_right(PAIR, quick, ((0, 1), ()), (), lack), True)

    def test_judge_takes_anything(self):
        run, lack = ((0, 1, 1, 1), RUN[1][1:2]), ((0, (1, 2)),)
        self.assertIs(lack_right(WEB, LOANS, run, (), lack), True)
        self.assertIs(lack_right(WEB, LOANS, RUN, (), lack), False)
        tells = [(thing, error, what) for thing, error, what in TELLS_FAULTS] + [(TELLS, None, 0)]
        judged_wrong(
            self, lack_right, (WEB, LOANS, run, (), lack), WEB_FAULTS, TERMS_FAULTS, RUN_FAULTS, tells, ASKS_FAULTS)
        self.by_name(lack_right, web=WEB, terms=LOANS, run=run, tells=(), asks=lack)


if __name__ == "__main__":
    unittest.main()
