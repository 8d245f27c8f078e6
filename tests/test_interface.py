"""The names, files and arguments of the interface."""

import importlib
import inspect
import unittest

INTERFACE = """
    webs: made_web(thing) is_web(thing) near(web,place) days_between(web,u,v) with_way(web,u,v,d) without_way(web,u,v)
    webs: with_place(web,row) without_place(web,place) renamed(web,order)
    trees: made_tree(web,thing) is_tree(web,thing) least_tree(web) tree_length(web,tree) tree_longest(web,tree)
    trees: road(web,tree,u,v) hung(web,u,v) cut(web,tree,index) across(web,lot)
    swaps: least_trees(web) exchanges(web,tree,other)
    clusters: made_lot(web,thing) parts(web,most) clusters(web) is_cluster(web,thing) joined_at(web,lot)
    clusters: opens_at(web,lot) children(web,lot) inner(web,lot) moats(web)
    terms: made_terms(web,thing) is_terms(web,thing) most_asks(web,terms) longest_loan(web,terms) notice(web,terms)
    numbers: reserve(web,terms,tree) tree_needed(web,terms,tree) needed(web,terms) summands(web,terms)
    numbers: first_hands(web,terms,tree,root)
    worths: way_gain(web,terms,u,v,d) free_ways(web) notice_gain(web,terms) loan_gain(web,terms)
    worths: place_gain(web,terms,row) buys(web,terms,offers,crates)
    games: small(web,terms) keepable(web,terms,crates)
    moments: made_hands(web,thing) made_moment(web,terms,thing) is_moment(web,terms,thing) first_moment(web,hands)
    moments: count_of(moment)
    days: made_tells(web,terms,moment,thing) made_asks(web,terms,thing) opened(web,terms,moment,tells,asks)
    days: after_day(web,terms,moment,day)
    runs: made_run(web,terms,thing) is_run(web,terms,thing) moments(web,terms,run)
    kernel: due_in(web,terms,moment,lot,h) lost_right(web,terms,moment,lot,h) moats_right(web,thing)
    kernel: least_paper(web,tree,thing) standing_right(web,terms,hands,tree,root)
    kernel: lack_right(web,terms,run,tells,asks)
    lost: lost_paper(web,terms,moment) doomed(web,terms,run)
    foe: foe_day(web,terms,moment)
    houses: made_house(thing) is_house(thing)
    hunt: hunted(web,terms,house,hands)
    plain: resumed(web,terms,tree,root,moment,book)
    webtexts: read_web(text) print_web(web,names) read_terms(web,text) print_terms(web,terms)
    housetexts: read_house(web,names,text) print_house(web,names,house)
    runtexts: read_run(web,names,terms,text) print_run(web,names,terms,run)
"""

CLASSES = """
    runner: Runner(web,terms,house,hands) take(tells,asks) moment() cells() run()
    plain: Plain(web,terms,tree,root) take(tells,asks) moment() run() owed() book()
    live: Live(web,terms,hands) take(day) back() again() moment() run() paper()
    desk: Desk() row(text)
"""


class Interface(unittest.TestCase):

    def test_functions(self):
        for line in INTERFACE.split("\n"):
            for told in line.split()[1:]:
                module = "treeandtrip." + line.split(":")[0].strip()
                function = getattr(importlib.import_module(module), told.split("(")[0])
                self.takes(function, module, told)

    def test_classes(self):
        """Each class takes these arguments, and each method stands in the class itself."""
        for line in CLASSES.strip().split("\n"):
            module = "treeandtrip." + line.split(":")[0].strip()
            told, *methods = line.split()[1:]
            made = getattr(importlib.import_module(module), told.split("(")[0])
            self.assertTrue(inspect.isclass(made), told)
            self.assertEqual(made.__module__, module, told)
            for method in [told] + methods:
                name = "__init__" if method == told else method.split("(")[0]
                self.takes(vars(made)[name], module, method.replace("(", "(self,").replace(",)", ")"))

    def takes(self, function, module, told):
        """The function is of this module, and takes these arguments by position and by name."""
        self.assertTrue(inspect.isfunction(function), told)
        self.assertEqual(function.__module__, module, told)
        parameters = inspect.signature(function).parameters.values()
        self.assertEqual([each.name for each in parameters], told.rstrip(")").split("(")[1].split(","), told)
        for each in parameters:
            self.assertEqual((each.kind, each.default), (each.POSITIONAL_OR_KEYWORD, each.empty), told)


if __name__ == "__main__":
    unittest.main()
