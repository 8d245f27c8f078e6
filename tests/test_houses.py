"""Houses: [12.1] to [12.4]."""

import random
import unittest

from treeandtrip.errors import BadHouse, TooDeep, TooMany
from treeandtrip.houses import is_house, made_house
from tests.house_samples import NO_PARTS, ONE_PART, STAY, TWO_PARTS, drawn_house, minus, put, set_to, spots
from tests.house_samples import within_ifs
from tests.samples import NO_NUMBERS, ODD, Case, deep


def faults_of(body, bodies=1, times=0):
    """For each statement, in the order in which they are written, its first fault by [12.4], or None."""
    for statement in body:
        fault, within = fault_of(statement, bodies, times)
        yield fault
        for inner, more in within:
            yield from faults_of(inner, bodies + 1, times + more)


def fault_of(statement, bodies, times):
    if not isinstance(statement, tuple) or not statement or not isinstance(statement[0], str):
        return "BadHouse", ()
    wanted = {"send": "seee", "set": "sie", "if": "sebb", "times": "simb"}.get(statement[0], "")
    if len(wanted) != len(statement):
        return "BadHouse", ()
    parts = list(zip(wanted, statement))
    if not all(whole(item, 0, 15) for sort, item in parts if sort == "i"):
        return "BadHouse", ()
    if not all(whole(item, 1, 40) for sort, item in parts if sort == "m"):
        return "BadHouse", ()
    for sort, item in parts:
        if sort == "e" and first_bad_part(item, 1):
            return first_bad_part(item, 1), ()
    inside = [item for sort, item in parts if sort == "b"]
    if not all(isinstance(item, tuple) for item in inside):
        return "BadHouse", ()
    if inside and bodies == 6 or statement[0] == "times" and times == 2:
        return "TooDeep", ()
    return None, [(item, int(statement[0] == "times")) for item in inside]


def whole(thing, least, most):
    return type(thing) is int and least <= thing <= most


def first_bad_part(thing, level):
    if level == 9:
        return "TooDeep"
    if whole(thing, 0, 1000000):
        return None
    if not isinstance(thing, tuple) or not thing or not isinstance(thing[0], str):
        return "BadHouse"
    if thing[0] == "cell":
        return None if len(thing) == 2 and whole(thing[1], 0, 15) else "BadHouse"
    many = {1: NO_PARTS, 2: ONE_PART, 3: TWO_PARTS}.get(len(thing), ())
    if thing[0] not in many:
        return "BadHouse"
    return next(filter(None, [first_bad_part(part, level + 1) for part in thing[1:]]), None)


def refusal_of(house):
    """The error by [12.4] and its `what`, or None."""
    if not isinstance(house, tuple):
        return "BadHouse", -1
    for number, fault in enumerate(faults_of(house)):
        if number == 200:
            return "TooMany", 201
        if fault:
            return fault, number
    return None


ERRORS = {"BadHouse": BadHouse, "TooDeep": TooDeep, "TooMany": TooMany}
# What stands somewhere in a house and is wrong there, or makes what stands around it too deep.
PUT = [
    None, True, False, -1, 1000001, 16, 41, 0, "", "send", "day", (), [], ("day",), ("cell", 16), ("cell", True),
    ("hand",), ("hand", 1, 2), ("+", 1), ("+", 1, 2, 3), ("mod", 1, 2), (STAY,), STAY, ("set", 0), ("if", 1, ()),
    ("times", 0, 1, (STAY,)), (("times", 0, 1, (("times", 1, 1, ()),)),), ("if", 1, (), []), minus(4), minus(7),
    minus(8), within_ifs(3)[0], within_ifs(5), within_ifs(6), within_ifs(2, (("times", 0, 1, (("times", 1, 1, ()),)),))]


class Houses(Case):

    def check(self, house):
        wanted = refusal_of(house)
        if wanted is None:
            self.same(made_house(house), house)
            self.assertIs(is_house(house), True)
        else:
            self.refuses(ERRORS[wanted[0]], wanted[1], made_house, house)
            self.assertIs(is_house(house), False)
        return wanted and wanted[0]

    def refused(self, error, what, house):
        """The error is the one that is told, and that by [12.4], which the tests reckon by themselves, too."""
        self.assertEqual((ERRORS[refusal_of(house)[0]], refusal_of(house)[1]), (error, what), house)
        self.check(house)

    def good(self, house):
        self.assertIs(self.check(house), None, house)

    def test_drawn(self):
        for seed in range(200):
            self.good(drawn_house(seed))

    def test_drawn_with_one_part_changed(self):
        draw = random.Random(12)
        told = {}
        for seed in range(200):
            house = drawn_house(seed)
            places = list(spots(house))
            for path in draw.sample(places, min(len(places), 40)):
                wanted = self.check(put(house, path, draw.choice(PUT)))
                told[wanted] = told.get(wanted, 0) + 1
        self.assertTrue(told["BadHouse"] > 700 and told["TooDeep"] > 70 and told[None] > 70, told)

    def test_drawn_with_two_parts_changed(self):
        draw = random.Random(13)
        for seed in range(300):
            house = drawn_house(seed)
            for _ in range(4):
                twice = put(house, draw.choice(list(spots(house))), draw.choice(PUT))
                self.check(put(twice, draw.choice(list(spots(twice))), draw.choice(PUT)))

    def test_statements(self):
        for house in [
                (), (("send", 0, 1, 1),), (("set", 15, 1000000),), (("if", 0, (), ()),), (("times", 0, 1, ()),),
                (("times", 15, 40, (("if", ("day",), (STAY, STAY), (("send", 0, 1, ("cell", 0)),)), STAY)), STAY)]:
            self.good(house)
        for statement in [
                None, True, 5, "set", (), [], list(STAY), (0, 0, 0), (None,), ("Set", 0, 0), ("stay",), ("set",),
                ("set", 0), ("set", 0, 0, 0), ("send", 0, 1), ("send", 0, 1, 1, 1), ("if", 1, ()), ("if", 1),
                ("if", 1, (), (), ()), ("times", 0, 1), ("times", 0, 1, (), ()), ("times", 0, ()), (("set",), 0, 0),
                (["set"], 0, 0), (True, 0, 0), ("day",), ("hand", 1), deep(lambda thing: (thing,))]:
            self.refused(BadHouse, 0, (statement,))
            self.refused(BadHouse, 1, (STAY, statement, None))

    def test_cells_and_times(self):
        for i in (0, 1, 15):
            self.good((("set", i, 0), ("times", i, 40, ()), ("set", 0, ("cell", i))))
        for i in NO_NUMBERS + [-1, 16, 10 ** 40]:
            self.refused(BadHouse, 0, (("set", i, 0),))
            self.refused(BadHouse, 0, (("times", i, 1, ()),))
            self.refused(BadHouse, 0, (("set", 0, ("cell", i)),))
        for many in NO_NUMBERS + [-1, 0, 41, 10 ** 40]:
            self.refused(BadHouse, 0, (("times", 0, many, ()),))

    def test_expressions(self):
        good = [0, 1, 1000000, ("day",), ("away",), ("cell", 0), ("cell", 15)]
        good += [(word, 40) for word in ONE_PART] + [(word, ("day",), 3) for word in TWO_PARTS]
        wrong = NO_NUMBERS + [-1, 1000001, 10 ** 40, "day", [], ["day"], ("day", 1), ("away", 1), ("cell",)]
        wrong += [("cell", 1, 1), ("hand",), ("hand", 1, 1), ("bound", 1), ("bound", 1, 1, 1), ("+", 1), ("-", 1, 1, 1)]
        wrong += [("<",), ("**", 1, 1), ("cell", ("day",)), (5,), ((),), (("day",),), (None, 1), (["+"], 1, 1)]
        wrong += [("min", (1, 2)), ("max", [1, 2], 3), ("hand", True), ("+", 1, False), ("+", None, 1), ("=", 1, -1)]
        wrong += [deep(lambda thing: (thing,))]
        for expression in good:
            self.each_place(expression, lambda house: self.good(house))
        for expression in wrong:
            self.each_place(expression, lambda house: self.refused(BadHouse, 0, house))

    def each_place(self, expression, judge):
        """The expression wherever a statement, or another expression, has one."""
        for statement in [
                ("send", expression, 1, 1), ("send", 1, expression, 1), ("send", 1, 1, expression), set_to(expression),
                ("if", expression, (), ()), set_to(("hand", expression)), set_to(("bound", expression, 1)),
                set_to(("bound", 1, expression)), set_to(("min", ("told", expression), 1))]:
            judge((statement,))

    def test_200_statements(self):
        bodies = [(STAY,) * 99, (STAY,) * 98]
        for house in [
                (STAY,) * 200, (("if", 1, bodies[0], bodies[1]), STAY, STAY), (("times", 0, 1, (STAY,) * 199),),
                (STAY, ("if", 1, (("if", 1, (STAY,) * 50, (STAY,) * 50),), (("times", 3, 4, (STAY,) * 96),)))]:
            self.good(house)
            self.refused(TooMany, 201, house + (STAY,))
            self.refused(TooMany, 201, house + (None,))
            self.refused(TooMany, 201, house + (None,) * 50)
            self.refused(TooMany, 201, (STAY,) + house)
            self.refused(BadHouse, 0, (None,) + house)
        self.refused(BadHouse, 199, (STAY,) * 199 + (None,) * 9)
        self.refused(BadHouse, 199, (STAY,) * 199 + (("if", 1, (STAY,) * 9, None),))
        self.refused(TooMany, 201, (STAY,) * 199 + (("if", 1, (None,), ()),))
        self.refused(TooMany, 201, (("if", 1, (STAY,) * 300, ()),))
        self.refused(TooDeep, 150, (STAY,) * 150 + (set_to(minus(8)),) + (STAY,) * 100)

    def test_expressions_within_one_another(self):
        for statement in (set_to, lambda each: ("send", 0, each, 1), lambda each: ("if", each, (), ())):
            self.good((statement(minus(7)),))
            self.refused(TooDeep, 0, (statement(minus(8)),))
            self.refused(TooDeep, 1, (STAY, statement(minus(20))))
        for ninth in [0, -1, None, True, [], (), ("day",), ("cell", 99), "x"]:
            self.refused(TooDeep, 0, (set_to(minus(8, ninth)),))
            self.refused(TooDeep, 0, (set_to(minus(7, ("hand", ninth))),))
        # A cell's number is no expression, so that a cell may stand eighth; its form is looked at there.
        self.good((set_to(minus(7, ("cell", 15))),))
        self.refused(BadHouse, 0, (set_to(minus(7, ("cell", 16))),))
        self.refused(BadHouse, 0, (set_to(minus(7, ("hand", 1, 2))),))

    def test_from_the_left_and_from_above(self):
        deeper = minus(8)
        for expression, error in [
                (("+", None, deeper), BadHouse), (("+", minus(7), None), TooDeep), (("+", deeper, None), TooDeep),
                (("mod", deeper, 1), BadHouse), (("+", deeper), BadHouse), (("+", minus(6, None), minus(7)), BadHouse),
                (("min", minus(6), minus(7)), TooDeep)]:
            self.refused(error, 0, (set_to(expression),))
        self.refused(TooDeep, 0, (("send", deeper, None, None),))
        self.refused(BadHouse, 0, (("send", None, deeper, deeper),))
        self.refused(TooDeep, 0, (("send", 1, deeper, None),))

    def test_bodies_within_one_another(self):
        for second in (False, True):
            self.good(within_ifs(5, (), second))
            self.good(within_ifs(5, (STAY,), second))
            self.refused(TooDeep, 5, within_ifs(6, (), second))
            self.refused(TooDeep, 5, within_ifs(6, (None,), second))
            self.refused(TooDeep, 6, (STAY,) + within_ifs(7, (), second))
        self.good(within_ifs(4, (("times", 0, 1, (STAY,)),)))
        self.refused(TooDeep, 5, within_ifs(5, (("times", 0, 1, ()),)))
        self.refused(TooDeep, 6, within_ifs(5, (STAY, ("if", 1, (), ()))))

    def test_times_within_one_another(self):
        def times(body):
            return (("times", 0, 2, body),)

        self.good(times(times((STAY,))))
        self.good(times(times(()) + times(()) + within_ifs(3)))
        self.refused(TooDeep, 2, times(times(times(()))))
        self.refused(TooDeep, 3, times(times(within_ifs(1, times((None,))))))
        self.refused(TooDeep, 3, times(within_ifs(1, times(times(())))))
        self.refused(TooDeep, 3, times((STAY,) + times(times(()))))
        self.good(times(within_ifs(3, times(()))))
        self.good(times(times(())) + times(times(())))

    def test_what_is_refused_first(self):
        within = (("times", 0, 1, (("times", 0, 1, (STAY,)),)),)
        for error, what, house in [
                # Its form, then its expressions, then its bodies, then how deep they stand.
                (BadHouse, 0, (("times", 16, 1, None),)), (BadHouse, 0, (("set", 16, minus(8)),)),
                (TooDeep, 0, (("if", minus(8), None, None),)), (BadHouse, 0, (("if", None, None, ()),)),
                (BadHouse, 0, (("if", 1, None, (None,)),)), (BadHouse, 0, (("if", 1, (None,), None),)),
                (BadHouse, 0, (("if", 1, (), []),)), (BadHouse, 0, (("times", 0, 1, [STAY]),)),
                (BadHouse, 5, within_ifs(5, (("if", 1, (), None),))),
                (BadHouse, 5, within_ifs(5, (("if", None, (), ()),))),
                (BadHouse, 2, put(within, (0, 3, 0, 3), (("times", 0, 0, ()),))),
                (BadHouse, 2, put(within, (0, 3, 0, 3), (("times", 0, 1, None),))),
                # A statement is looked at before anything within its bodies, and these before what is behind it.
                (TooDeep, 0, (("if", minus(8), (None,), ()), None)), (BadHouse, 1, (("if", 1, (None,), (None,)), None)),
                (BadHouse, 2, (("if", 1, (STAY,), (None,)), None)), (BadHouse, 3, (("if", 1, (STAY,), (STAY,)), None)),
                (TooDeep, 2, (("if", 1, (STAY, set_to(minus(8))), (None,)), None)),
                (BadHouse, 4, (("if", 1, (("if", 1, (STAY,), (STAY,)), None), ()),)),
                (TooDeep, 5, within_ifs(6, (None,)) + (None,)), (BadHouse, 0, (None,) + within_ifs(6))]:
            self.refused(error, what, house)

    def test_no_tuple(self):
        for thing in [None, True, 0, "house", [], [STAY], list(drawn_house(3)), deep(lambda each: [each])]:
            self.refused(BadHouse, -1, thing)

    def test_judge_takes_anything(self):
        for thing in ODD:
            self.assertIs(is_house(thing), thing == ())
            self.assertIs(is_house((thing,)), False)
            self.assertIs(is_house((("if", 1, thing, ()),)), thing == ())
            for other in ODD:
                self.assertIs(is_house((("send", 1, thing, other),)), False)
                self.assertIs(is_house((("set", thing, other), other)), False)
                self.assertIs(is_house((("times", 3, thing, other),)), False)

    def test_fresh_and_by_name(self):
        house = (("send", 1, 0, ("-", ("hand", 1), 1)),)
        self.assertIsNot(made_house(house), house)
        self.assertIsNot(made_house(house)[0][3], house[0][3])
        self.by_name(made_house, thing=house)
        self.by_name(is_house, thing=house)


if __name__ == "__main__":
    unittest.main()
