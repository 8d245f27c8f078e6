"""What holds over the whole program: [0.3] (a) to (e), [14.5], [15.1], and what it promises of all calls."""

import random
import unittest

from treeandtrip.clusters import moats
from treeandtrip.days import opened
from treeandtrip.desk import Desk
from treeandtrip.errors import Lacks
from treeandtrip.foe import foe_day
from treeandtrip.games import keepable
from treeandtrip.housetexts import print_house
from treeandtrip.hunt import hunted
from treeandtrip.kernel import lack_right, least_paper, lost_right, standing_right
from treeandtrip.live import Live
from treeandtrip.lost import doomed, lost_paper
from treeandtrip.moments import count_of, is_moment
from treeandtrip.numbers import first_hands, needed, summands, tree_needed
from treeandtrip.plain import Plain, resumed
from treeandtrip.runner import Runner
from treeandtrip.runs import moments
from treeandtrip.runtexts import print_run
from treeandtrip.swaps import least_trees
from treeandtrip.trees import least_tree, tree_length
from treeandtrip.webtexts import print_terms, print_web
from tests.day_samples import SOME, amid_by_words, day_by_words, drawn_run, drawn_sends, numbers_of, terms_for
from tests.house_samples import busy_house
from tests.samples import DRAWN, FORK, ONE, PAIR, THREE, WEB, Case, all_trees, alike, ring, row, star
from tests.test_plain import drawn_deeds
from tests.text_samples import NAMES

TWO = (2, ((0, 1, 1),))
SHAPES = [ONE, TWO, PAIR, WEB, THREE, FORK, row(5), star(4), ring(4, 3), alike(4, 2)] + DRAWN[10:20]


def scattered(draw, web, many):
    """Hands with so many crates anywhere."""
    places = [draw.randrange(web[0]) for _ in range(many)]
    return tuple(places.count(place) for place in range(web[0]))


class Needed(Case):

    def test_a_plain_house_never_lacks(self):
        """(a) and (b): whatever is asked, also what the foe asks, from `needed` crates on a least tree."""
        draw = random.Random(30)
        for web in SHAPES:
            for terms in terms_for(web):
                tree, root = draw.choice(all_trees(web)), draw.randrange(web[0])
                for legs in (least_tree(web), tree):
                    house = Plain(web, terms, legs, root)
                    self.assertEqual(count_of(house.moment()), tree_needed(web, terms, legs))
                    self.assertIs(standing_right(web, terms, house.moment()[0], legs, root), True)
                    for _ in range(12):
                        # A house that never lacks never comes to a lost moment, as (d) tells.
                        self.assertIs(lost_paper(web, terms, house.moment()), None)
                        house.take(*drawn_deeds(draw, web, terms, house.moment()))
                self.assertEqual(tree_needed(web, terms, least_tree(web)), needed(web, terms))

    def test_which_trees_need_no_more(self):
        """(b): `tree_needed` is `needed` exactly for least trees."""
        for web in SHAPES:
            least = least_trees(web)
            for terms in terms_for(web):
                for tree in all_trees(web):
                    alone = tree_needed(web, terms, tree) == needed(web, terms)
                    self.assertIs(alone, tree in least, (web, terms, tree))
                    self.assertIs(least_paper(web, tree, moats(web)), tree in least)
                    self.assertIs(tree_length(web, tree) == tree_length(web, least[0]), tree in least)

    def test_with_one_crate_fewer_every_house_lacks(self):
        """(c): within L + M days, and each shorter run of it shows the lack to a judge."""
        draw = random.Random(31)
        for web in SHAPES:
            for terms in terms_for(web):
                most = numbers_of(terms)[1] + summands(web, terms)[2]
                begun = list(first_hands(web, terms, least_tree(web), draw.randrange(web[0])))
                begun[draw.choice([place for place, many in enumerate(begun) if many])] -= 1
                for hands in (tuple(begun), scattered(draw, web, needed(web, terms) - 1)):
                    run, tells, asks = hunted(web, terms, busy_house(draw, web), hands)
                    self.assertLess(len(run[1]), most)
                    self.assertIs(lack_right(web, terms, run, tells, asks), True)

    def test_a_lost_moment_of_any_run(self):
        """(d): from a moment with a paper of the number h a house that is asked by the foe lacks within h + 1 days."""
        draw = random.Random(32)
        seen = set()
        for web in SHAPES[1:]:
            for terms in terms_for(web):
                run = drawn_run(draw.random(), web, terms, 4)
                found = doomed(web, terms, run)
                if found is not None:
                    index, h, lot = found
                    moment = moments(web, terms, run)[index]
                    self.assertIs(lost_right(web, terms, moment, lot, h), True)
                    seen.add(h)
                    self.lacks_within(draw, web, terms, moment, h + 1)
        self.assertTrue({0, 1} <= seen, seen)

    def lacks_within(self, draw, web, terms, moment, most):
        for _ in range(most):
            tells, asks = foe_day(web, terms, moment)
            try:
                opened(web, terms, moment, tells, asks)
            except Lacks:
                return
            hands = amid_by_words(web, terms, moment, tells, asks)[0]
            moment = day_by_words(web, terms, moment, (tells, asks, drawn_sends(draw, web, hands)))
        self.fail((web, terms, moment))

    def test_games(self):
        """[15.1]: a house can go on for ever exactly with `needed` crates or more."""
        for web, terms in [(ONE, ("loans", 1, 2, 1)), (TWO, ("loans", 1, 1, 0)), (TWO, ("loans", 1, 2, 1))]:
            for crates in range(6):
                self.assertIs(keepable(web, terms, crates), crates >= needed(web, terms))


class Crates(Case):

    def test_no_day_makes_or_loses_a_crate(self):
        """(e), of live runs, of houses that are executed, and of plain ones."""
        draw = random.Random(33)
        for web in SOME:
            for terms in terms_for(web):
                hands, days = drawn_run(draw.random(), web, terms, 8)
                live, runner = Live(web, terms, hands), Runner(web, terms, busy_house(draw, web), (9,) * web[0])
                plain = Plain(web, terms, least_tree(web), 0)
                for day in days:
                    self.assertEqual(count_of(live.take(day)), sum(hands))
                    runner.take((), ())
                    self.assertEqual(count_of(runner.moment()), 9 * web[0])
                    plain.take(*drawn_deeds(draw, web, terms, plain.moment()))
                    self.assertEqual(count_of(plain.moment()), needed(web, terms))
                    for moment in (live.moment(), runner.moment(), plain.moment()):
                        self.assertIs(is_moment(web, terms, moment), True)


class Together(Case):

    def test_a_plain_house_goes_on_as_a_live_run_and_as_a_text(self):
        """The days of a plain house are a run that can be printed, read, done again and gone on with."""
        draw = random.Random(34)
        for web in SHAPES:
            names = NAMES[:web[0]]
            for terms in terms_for(web)[::2]:
                house = Plain(web, terms, least_tree(web), 0)
                for _ in range(6):
                    house.take(*drawn_deeds(draw, web, terms, house.moment()))
                hands, days = house.run()
                live = Live(web, terms, hands)
                for day in days:
                    live.take(day)
                self.same(live.moment(), house.moment())
                self.same(live.run(), house.run())
                desk = Desk()
                for text in (
                        "web " + print_web(web, names), "terms " + print_terms(web, terms), f"plain {names[0]}"):
                    desk.row(text)
                text = print_run(web, names, terms, house.run())
                for part in text.split("; ")[1:]:
                    self.assertNotIn("refused", desk.row("next" + part[3:].split(" send ")[0].replace("day", "")))
                self.same(desk.row("log"), text)
                other = resumed(web, terms, least_tree(web), 0, house.moment(), house.book())
                deeds = drawn_deeds(draw, web, terms, house.moment())
                self.same(other.take(*deeds), house.take(*deeds))

    def test_a_desk_hunts_as_the_hunt(self):
        draw = random.Random(35)
        for web in SHAPES:
            names, terms = NAMES[:web[0]], terms_for(web)[draw.randrange(5)]
            house, hands = busy_house(draw, web), scattered(draw, web, needed(web, terms) - 1)
            desk = Desk()
            for text in (
                    "web " + print_web(web, names), "terms " + print_terms(web, terms),
                    "house go " + print_house(web, names, house)):
                self.assertNotIn("refused", desk.row(text))
            run, _, asks = hunted(web, terms, house, hands)
            reply = f"lacks on day {len(run[1])} at {names[asks[-1][0]]}"
            self.same(desk.row("hunt go " + " ".join(map(str, hands))), reply)


if __name__ == "__main__":
    unittest.main()
