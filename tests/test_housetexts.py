"""The texts of houses: [17.6], with [12], [17.1] to [17.3] and [17.8]."""

import random
import unittest

from treeandtrip.errors import BadHouse, BadMany, BadText, Long, NoName, TooDeep, TooMany
from treeandtrip.houses import made_house
from treeandtrip.housetexts import print_house, read_house
from tests.house_samples import HOUSE_FAULTS, NO_PARTS, ONE_PART, STAY, TWO_PARTS, busy_house, drawn_house, minus
from tests.house_samples import nested, set_to, within_ifs
from tests.samples import ONE, ORDINARY, WEB, WEB_FAULTS
from tests.text_samples import FOUR, NAMES, NAMES_FAULTS, NO_TEXTS, Asked, bad_signs, can_be, changed, loose, refusal
from tests.text_samples import tight, words_in

TWO = (2, ((0, 1, 1),))
PLACES = ("hill", "dale")


def house_questions(names):
    """A function of words: (error, place) for each question of [17.6] that is answered with an error, in order."""
    def questions(words):
        statements, braces, within = 0, [], []
        for at, (word, place) in enumerate(words):
            behind = words[at - 1][0] if at else ""
            if word in ("send", "set", "if", "times"):
                statements += 1
                if statements > 200:
                    yield TooMany, place
                if word == "times" and braces.count("times") == 2:
                    yield TooDeep, place
            elif word == "{":
                if len(braces) == 5:
                    yield TooDeep, place
                braces.append(words[max(0, at - 3)][0])
            elif word == "}":
                braces.pop()
            elif word in ONE_PART or word in ("(", "bound"):
                if len(within) == 20:
                    yield TooDeep, place
                within.append([word, 2 if word == "bound" else 1])
            elif can_be(word, "NUMBER") and at > 1 and words[at - 2][0] == "times":
                if not 1 <= int(word) <= 40:
                    yield BadMany, place
            elif can_be(word, "NUMBER") and int(word) > 1000000:
                yield BadMany, place
            elif can_be(word, "NAME") and word not in names:
                yield NoName, place
            if word == ")":
                within.pop()
            if word in (")", "day", "away") or any(can_be(word, sort) for sort in ("NUMBER", "NAME", "CELL")):
                # An atom ends here, and with it each of those ahead of it that wanted no more than this one.
                while within and within[-1][0] != "(" and behind not in ("set", "times"):
                    within[-1][1] -= 1
                    if within[-1][1]:
                        break
                    within.pop()
    return questions


def written(draw, names, house):
    """The words of a house with brackets around all that is put together, and with names for any numbers."""
    if house == ():
        return ["-"]
    words = []
    for word, *rest in house:
        words += [";", word]
        if word == "send":
            first, second, third = [expressed(draw, names, part) for part in rest]
            words += first + ["to"] + second + [":"] + third
        elif word == "set":
            words += [f"c{rest[0]}", ":"] + expressed(draw, names, rest[1])
        elif word == "if":
            bodies = [["{"] + written(draw, names, body) + ["}"] for body in rest[1:]]
            words += expressed(draw, names, rest[0]) + bodies[0] + ["else"] + bodies[1]
        else:
            words += [f"c{rest[0]}", str(rest[1]), "{"] + written(draw, names, rest[2]) + ["}"]
    return words[1:]


def expressed(draw, names, expression):
    if isinstance(expression, int):
        named = expression < len(names) and draw.random() < 0.5
        words = [names[expression] if named else str(expression)]
    elif expression[0] == "cell":
        words = [f"c{expression[1]}"]
    else:
        parts = [expressed(draw, names, part) for part in expression[1:]]
        if expression[0] in NO_PARTS:
            words = [expression[0]]
        elif expression[0] in ONE_PART:
            words = [expression[0]] + parts[0]
        elif expression[0] == "bound":
            words = ["bound"] + parts[0] + ["in"] + parts[1]
        elif expression[0] in ("min", "max"):
            words = [expression[0], "("] + parts[0] + [","] + parts[1] + [")"]
        else:
            return ["("] + parts[0] + [expression[0]] + parts[1] + [")"]
    return ["("] + words + [")"] if draw.random() < 0.1 else words


def without_a_pair(text):
    """The text without one pair of brackets that hold together, for each such pair."""
    opened = []
    for index, sign in enumerate(text):
        if sign == "(":
            opened.append(index)
        elif sign == ")":
            begun = opened.pop()
            if text[max(0, begun - 4):begun] not in ("min ", "max "):
                yield text[:begun] + text[begun + 1:index] + text[index + 1:]


class Houses(Asked):

    def read(self, text):
        return read_house(TWO, PLACES, text)

    def printed(self, house):
        return print_house(TWO, PLACES, house)


class ReadHouse(Houses):

    def wanted(self, text):
        """(error, place) of the words, or None."""
        return refusal("HOUSE", text, house_questions(PLACES))

    def drawn(self):
        """Drawn houses of webs, each with the names of their places."""
        draw = random.Random(176)
        for at, web in enumerate(ORDINARY):
            for house in (drawn_house(at), busy_house(draw, web), busy_house(draw, web)):
                yield web, NAMES[:web[0]], house

    def test_drawn(self):
        draw = random.Random(177)
        for web, names, house in self.drawn():
            words = written(draw, names, house)
            self.same(read_house(web, names, loose(draw, words)), house)
            self.same(read_house(web, names, tight(words)), house)

    def test_printed_and_read(self):
        draw = random.Random(178)
        for web, names, house in self.drawn():
            text = print_house(web, names, house)
            words = [word for word, _ in words_in(text)]
            self.assertEqual(text, tight(words))
            self.same(read_house(web, names, text), house)
            self.same(read_house(web, names, loose(draw, words)), house)

    def test_no_bracket_can_be_left_out(self):
        told = {"other": 0, "refused": 0}
        for web, names, house in self.drawn():
            for text in without_a_pair(print_house(web, names, house)):
                found = self.outcome(read_house, web, names, text)
                self.assertNotEqual(found, house)
                told["refused" if found and isinstance(found[0], type) else "other"] += 1
        self.assertTrue(told["other"] > 50 and told["refused"] > 10, told)

    def test_where_names_are_printed(self):
        """A number behind `send`, `to` and the four words is in figures only if it is no place, or only a part."""
        named = 0
        for web, names, house in self.drawn():
            words = [""] + [word for word, _ in words_in(print_house(web, names, house))] + [""]
            for behind, word, ahead in zip(words, words[1:], words[2:]):
                itself = behind in ONE_PART + ("bound",) or (behind, ahead) in (("send", "to"), ("to", ":"))
                if can_be(word, "NAME"):
                    self.assertTrue(itself)
                    named += 1
                elif can_be(word, "NUMBER") and itself:
                    self.assertGreaterEqual(int(word), web[0])
        self.assertGreater(named, 100)

    def test_a_word_changed(self):
        draw = random.Random(179)
        told = {}
        for _, _, house in self.drawn():
            for _ in range(8):
                words = written(draw, PLACES, house)
                for _ in range(draw.choice([1, 1, 2])):
                    words = changed(draw, words)
                text = loose(draw, words)
                wanted = self.wanted(text)
                if wanted:
                    self.tells(wanted, self.read, text)
                else:
                    self.read_and_printed(text)
                told[wanted and wanted[0]] = told.get(wanted and wanted[0], 0) + 1
        for error in (BadText, NoName, BadMany, None):
            self.assertGreater(told.get(error, 0), 9, told)

    def read_and_printed(self, text):
        """No word of the text is wrong; its house may be too deep by itself, and is printed and read otherwise."""
        found = self.outcome(self.read, text)
        if found and found[0] is TooDeep:
            self.assertLess(found[1], 200)
        else:
            self.same(made_house(found), found)
            self.same(self.read(self.printed(found)), found)

    def test_each_word(self):
        for error, what, text in [
                (BadText, 0, ""), (BadText, 3, "   "), (BadText, 4, "set c16: 1"), (BadText, 4, "set c007: 1"),
                (BadText, 4, "set c: 1"), (BadText, 4, "set 1: 1"), (BadText, 4, "set hill: 1"),
                (BadText, 7, "set c0 1"),
                (BadText, 10, "set c0: 1;"), (BadText, 7, "set c0:"), (BadText, 8, "set c0: send"), (BadText, 0, "day"),
                (BadText, 0, "1"), (BadText, 0, "hill"), (BadText, 2, "- -"), (BadText, 1, "-; set c0: 1"),
                (BadText, 14, "set c1: 1 < 2 < 3"), (BadText, 14, "set c1: 1 = 2 < 3"),
                (BadText, 14, "set c1: 1 < 2 = 3"),
                (BadText, 8, "set c1: + 1"), (BadText, 8, "set c1: -1"), (BadText, 12, "set c1: 1 + "),
                (BadText, 12, "set c1: 1 + * 2"), (BadText, 10, "set c1: 1 1"), (BadText, 9, "set c1: ()"),
                (BadText, 10, "set c1: (1"), (BadText, 9, "set c1: 1)"), (BadText, 12, "set c1: min 1, 2"),
                (BadText, 14, "set c1: min (1)"), (BadText, 17, "set c1: min (1, 2"),
                (BadText, 17, "set c1: max (1, 2, 3)"),
                (BadText, 12, "set c1: hand"), (BadText, 13, "set c1: hand + 1"), (BadText, 18, "set c1: bound hill"),
                (BadText, 19, "set c1: bound hill 1"), (BadText, 21, "set c1: bound hill in"),
                (BadText, 13, "set c1: away 1"),
                (BadText, 12, "send hill to"), (BadText, 10, "send hill dale: 1"), (BadText, 17, "send hill to dale"),
                (BadText, 18, "send hill to dale 1"), (BadText, 5, "if 1 "), (BadText, 5, "if 1 set c0: 1"),
                (BadText, 7, "if 1 { }"), (BadText, 10, "if 1 { - }"), (BadText, 11, "if 1 { - } "),
                (BadText, 11, "if 1 { - } { - }"), (BadText, 15, "if 1 { - } else"), (BadText, 9, "times c0 x"),
                (BadText, 9, "times c0 { - }"), (BadText, 9, "times c0 c1 { - }"), (BadText, 6, "times 3 { - }"),
                (BadText, 17, "times c0 3 { - } { - }"), (BadText, 17, "times c0 3 { - } else { - }"),
                (BadText, 15, "times c0 3 { - "), (BadText, 8, "set c0: 007"), (BadText, 8, "set c0: 10000000"),
                (NoName, 13, "send hill to mill: 1"), (NoName, 8, "set c0: send2"), (NoName, 13, "set c0: hand mill +"),
                (BadMany, 8, "set c0: 1000001"), (BadMany, 8, "set c0: 9999999 +"), (BadMany, 9, "times c0 41 { - }"),
                (BadMany, 9, "times c0 0 x"), (BadMany, 9, "times c0 1000001 { - }")]:
            self.assertEqual(self.wanted(text), (error, what), text)
            self.refuses(error, what, self.read, text)

    def test_good_texts(self):
        for text, house in [
                ("-", ()), (" - ", ()), ("set c0: 1000000", (("set", 0, 1000000),)),
                ("set c15: c0", (("set", 15, ("cell", 0)),)),
                ("send hill to 1: hill", (("send", 0, 1, 0),)), ("send 1+1 to(7):0", (("send", ("+", 1, 1), 7, 0),)),
                ("set c0: 1 - 2 - 3", (("set", 0, ("-", ("-", 1, 2), 3)),)),
                ("set c0: 1 - (2 - 3)", (("set", 0, ("-", 1, ("-", 2, 3))),)),
                ("set c0: 8 / 4 * 2", (("set", 0, ("*", ("/", 8, 4), 2)),)),
                ("set c0: 1 + 2 * 3 - 4", (("set", 0, ("-", ("+", 1, ("*", 2, 3)), 4)),)),
                ("set c0: (1 + 2) * 3 < 4 - 5", (("set", 0, ("<", ("*", ("+", 1, 2), 3), ("-", 4, 5))),)),
                ("set c0: (1 = 2) = 3", (("set", 0, ("=", ("=", 1, 2), 3)),)),
                ("set c0: hand hill + hand dale", (("set", 0, ("+", ("hand", 0), ("hand", 1))),)),
                ("set c0: hand (hill + 1) * 2", (("set", 0, ("*", ("hand", ("+", 0, 1)), 2)),)),
                ("set c0: told asked hand c1", (("set", 0, ("told", ("asked", ("hand", ("cell", 1))))),)),
                ("set c0: bound bound 1 in 2 in hand 3", (("set", 0, ("bound", ("bound", 1, 2), ("hand", 3))),)),
                ("set c0: min(1<2,max(day,away))", (("set", 0, ("min", ("<", 1, 2), ("max", ("day",), ("away",)))),)),
                ("set c0: ((((1))))", (("set", 0, 1),)), ("times c3 40{-}", (("times", 3, 40, ()),)),
                ("times c0 1 { set c0: 1; set c1: 2 }", (("times", 0, 1, (("set", 0, 1), ("set", 1, 2))),)),
                ("if day { - } else { set c0: 1 }; set c1: 1", (
                    ("if", ("day",), (), (("set", 0, 1),)), ("set", 1, 1)))]:
            self.same(self.read(text), house, text)

    def test_200_statements(self):
        stay = "set c3: 0"
        for text in (
                "; ".join([stay] * 200), "times c0 1 { " + "; ".join([stay] * 199) + " }",
                "if 1 { " + "; ".join([stay] * 100) + " } else { " + "; ".join([stay] * 97) + f" }}; {stay}; {stay}"):
            self.assertEqual(len(text.split("set")) + text.count("times") + text.count("if"), 201)
            self.assertEqual(self.read(text)[0][0], text.split(" ")[0])
            for more in (stay, "send", "times c0 0", "if", "set set"):
                self.refuses(TooMany, len(text) + 2, self.read, text + "; " + more)
            self.refuses(BadText, len(text) + 2, self.read, text + "; -")
            self.refuses(BadText, len(text) + 1, self.read, text + ";")
        inside = "times c0 1 { times c0 1 { " + "; ".join([stay] * 198) + "; "
        self.refuses(TooMany, len(inside), self.read, inside + "times c0 1 { - } } }")
        inside = "times c0 1 { times c0 1 { " + "; ".join([stay] * 197) + "; "
        self.refuses(TooDeep, len(inside), self.read, inside + "times c0 1 { - } } }")

    def test_bodies_within_one_another(self):
        for head, tail in (("if 1 { ", " } else { - }"), ("if 1 { - } else { ", " }")):
            for inside in ("-", "set c0: 1"):
                self.assertEqual(self.read(head * 5 + inside + tail * 5)[0][0], "if")
                brace = 5 * len(head) + len(head) - 2
                self.refuses(TooDeep, brace - (head.count("{") > 1) * 11, self.read, head * 6 + inside + tail * 6)
        text = "if 1 { if 1 { if 1 { times c0 1 { times c0 1 { if 1 "
        behind = "{ - } else { - } } } } else { - } } else { - } } else { - }"
        self.refuses(TooDeep, len(text), self.read, text + behind)
        self.refuses(TooDeep, len(text), self.read, text + "{ x")
        self.refuses(BadText, len(text), self.read, text + "} x")

    def test_times_within_one_another(self):
        two = "times c0 2 { times c1 2 { "
        self.same(self.read(two + "- } }"), (("times", 0, 2, (("times", 1, 2, ()),)),))
        self.refuses(TooDeep, len(two), self.read, two + "times c2 2 { - } } }")
        self.refuses(TooDeep, len(two), self.read, two + "times times")
        for between in ("if 1 { ", "if 1 { - } else { ", "set c0: 1; "):
            self.refuses(TooDeep, len(two + between), self.read, two + between + "times c16")
        behind = two + "- }; times c2 40 { - } }; times c3 1 { times c4 1 { "
        self.same(self.read(behind + "- } }")[1], ("times", 3, 1, (("times", 4, 1, ()),)))
        self.refuses(TooDeep, len(behind), self.read, behind + "times c5 1 { - } } }")

    def test_twenty_brackets(self):
        for word, rest in [
                ("(", ")"), ("hand ", ""), ("asked ", ""), ("told ", ""), ("bound ", " in 1"), ("bound 1 in ", ""),
                ("min (", ", 1)"), ("max (1, ", ")")]:
            text = "set c0: " + word * 20
            place = len(text) + (4 if word[:3] in ("min", "max") else 0)
            found = self.outcome(self.read, text + "1" + rest * 20)
            self.assertEqual(found, (("set", 0, 1),) if word == "(" else (TooDeep, 0), word)
            self.refuses(TooDeep, place, self.read, text + word + "1" + rest * 21)
            self.assertEqual(self.wanted(text + word + "1" + rest * 21), (TooDeep, place))
            for other in ("(", "hand", "asked 1", "told x", "bound"):
                self.refuses(TooDeep, len(text), self.read, text + other)
            self.refuses(TooDeep, len(text) + 4, self.read, text + "min (")
            self.refuses(BadText, len(text) + 4, self.read, text + "min hand")

    def test_what_stands_within_what(self):
        """Of these words there may be more than twenty, as they do not stand within one another."""
        for part in ("hand 1", "(1)", "bound hand 1 in told 1", "min (1, 2)", "hand (1)"):
            text = "set c0: " + " + ".join([part] * 30)
            self.assertIsNone(self.wanted(text))
            self.refuses(TooDeep, 0, self.read, text)
        for part in ("hand 1", "(1)", "bound hand 1 in told 1", "min (1, max (2, 3))", "hand (1)", "((asked told 1))"):
            text = f"set c0: {part} + {part} + " + "(" * 20
            self.refuses(TooDeep, len(text), self.read, text + "(1" + ")" * 21)
            self.same(self.read(text + "1" + ")" * 20)[0][2][2], 1)
        deep = "(" * 19 + "hand 1 * (2)" + ")" * 19
        self.same(self.read(f"set c0: {deep} + {deep}"), (("set", 0, ("+",) + (("*", ("hand", 1), 2),) * 2),))
        text = "set c0: " + "(" * 18 + "bound 1 in hand "
        self.refuses(TooDeep, len(text), self.read, text + "hand 1")
        self.same(self.read(text + "1" + ")" * 18), (("set", 0, ("bound", 1, ("hand", 1))),))

    def test_what_made_house_refuses(self):
        ones = " + ".join(["1"] * 9)
        self.refuses(TooDeep, 0, self.read, "set c0: " + ones)
        self.refuses(TooDeep, 2, self.read, f"set c0: 1; if 1 {{ set c0: {ones} }} else {{ - }}; set c0: {ones}")
        self.same(self.read("set c0: " + ones[4:]), (("set", 0, nested(lambda part: ("+", part, 1), 7, 1)),))
        self.refuses(TooDeep, 0, self.read, "set c0: " + "1+" * 29000 + "1")
        self.refuses(TooDeep, 0, self.read, "set c0: " + "1*" * 29000 + "1")

    def test_signs(self):
        for text, index in bad_signs("send hill to dale: 1"):
            self.refuses(BadText, index, self.read, text)
        for many in (59999, 60000):
            self.same(self.read("-" + " " * (many - 1)), ())
        self.refuses(BadText, 60000, self.read, "-" + " " * 60000)
        self.refuses(BadText, 0, self.read, "}" * 60000)

    def test_refusals(self):
        texts = NO_TEXTS + [("set", BadText, 3), ("set c0: hall", NoName, 8), ("set c0: " + "1+" * 9 + "1", TooDeep, 0)]
        self.refuses_in_order(read_house, (WEB, WEB_FAULTS), (FOUR, NAMES_FAULTS), ("send hill to dale: 1", texts))

    def test_by_name(self):
        self.by_name(read_house, web=TWO, names=PLACES, text="send hill to dale: 1")
        self.by_name(print_house, web=TWO, names=PLACES, house=(STAY,))


class PrintHouse(Houses):

    def test_examples(self):
        house = (("times", 3, 2, (("send", ("cell", 3), 0, ("bound", ("+", 0, 1), 1)),)),)
        self.same(self.printed(house), "times c3 2 { send c3 to hill: bound (0 + 1) in 1 }")
        house = (("set", 0, ("-", ("-", 1, 2), ("-", ("min", 3, ("<", 4, 5)), 6))),)
        self.same(self.printed(house), "set c0: 1 - 2 - (min (3, 4 < 5) - 6)")
        self.same([self.printed(()), self.printed((STAY, STAY))], ["-", "set c0: 0; set c0: 0"])

    def test_statements(self):
        for house, text in [
                ((("send", 0, 1, 1),), "send hill to dale: 1"), ((("send", 2, 1000000, 0),), "send 2 to 1000000: 0"),
                ((("send", ("+", 0, 1), ("hand", 0), ("hand", 1)),), "send 0 + 1 to hand hill: hand dale"),
                ((("if", 1, (), ()),), "if 1 { - } else { - }"),
                ((("if", ("=", 0, 1), (STAY, STAY), ()), STAY),
                 "if 0 = 1 { set c0: 0; set c0: 0 } else { - }; set c0: 0"),
                ((("times", 15, 40, ()),), "times c15 40 { - }"),
                ((("times", 0, 1, (("if", 0, (), (("times", 1, 1, ()),)),)),),
                 "times c0 1 { if 0 { - } else { times c1 1 { - } } }")]:
            self.same(self.printed(house), text)
            self.same(self.read(text), house)

    def test_brackets(self):
        for expression, text in [
                (("+", ("+", 1, 2), 3), "1 + 2 + 3"), (("+", 1, ("+", 2, 3)), "1 + (2 + 3)"),
                (("-", 1, ("*", 2, 3)), "1 - 2 * 3"),
                (("*", ("-", 1, 2), 3), "(1 - 2) * 3"), (("*", 1, ("/", 2, 3)), "1 * (2 / 3)"),
                (("/", ("*", 1, 2), 3), "1 * 2 / 3"), (("/", 1, ("-", 2, 3)), "1 / (2 - 3)"),
                (("<", ("+", 1, 2), ("-", 3, 4)), "1 + 2 < 3 - 4"), (("<", ("<", 1, 2), 3), "(1 < 2) < 3"),
                (("=", 1, ("<", 2, 3)), "1 = (2 < 3)"), (("+", ("<", 1, 2), ("=", 3, 4)), "(1 < 2) + (3 = 4)"),
                (("*", ("=", 1, 2), ("<", 3, 4)), "(1 = 2) * (3 < 4)"), (("hand", ("*", 1, 2)), "hand (1 * 2)"),
                (("*", ("hand", 1), ("hand", ("hand", 7))), "hand dale * hand hand 7"),
                (("bound", ("min", 1, 2), ("<", 1, 2)), "bound min (1, 2) in (1 < 2)"),
                (("bound", ("hand", 0), ("asked", 1)), "bound hand hill in asked dale"),
                (("min", ("<", 1, 2), ("+", 3, 4)), "min (1 < 2, 3 + 4)"),
                (("max", ("min", 1, 2), ("cell", 3)), "max (min (1, 2), c3)"), (("told", ("day",)), "told day"),
                (("-", ("away",), ("cell", 15)), "away - c15"), (("bound", 0, 0), "bound hill in 0"),
                (("asked", ("+", 0, 0)), "asked (0 + 0)"), (("told", 1), "told dale"), (("min", 0, 1), "min (0, 1)")]:
            self.same(self.printed((("set", 0, expression),)), "set c0: " + text)
            self.same(self.read("set c0: " + text), (("set", 0, expression),))

    def test_each_two_signs(self):
        """Brackets stand around a part only if the text is read as another house without them."""
        signs = [word for word in TWO_PARTS if word not in ("bound", "min", "max")]
        for outer in signs + ["min", "bound"]:
            for inner in signs:
                for expression in ((outer, (inner, 4, 5), 6), (outer, 4, (inner, 5, 6))):
                    text = self.printed((set_to(expression),))
                    self.same(self.read(text), (set_to(expression),))
                    for other in without_a_pair(text):
                        self.assertNotEqual(self.outcome(self.read, other), (set_to(expression),), text)

    def test_deep_houses(self):
        draw = random.Random(180)
        for house in [(set_to(minus(7)),), within_ifs(5, (STAY,)), (STAY,) * 200, within_ifs(5, (), True)]:
            self.same(self.read(self.printed(house)), house)
            self.same(self.read(loose(draw, [word for word, _ in words_in(self.printed(house))])), house)
        for word in ("hand", "asked", "told"):
            house = (set_to(nested(lambda part: (word, ("+", part, 0)), 3, (word, 1))),)
            self.same(self.read(self.printed(house)), house)

    def test_long_houses(self):
        """A house whose text has just 60,000 signs, and one with a sign more."""
        house = (("set", 0, nested(lambda inner: ("-", inner, inner), 6, 1000000)),)
        house *= 60000 // (len(self.printed(house)) + 2)
        while len(self.printed(house)) < 60000 - 40:
            house += (("set", 0, 1),)
        # Sums of so many signs, as `100 + 1 + 1`.
        sums = {4 * many - 3 + more: nested(lambda inner: ("+", inner, 1), many - 1, 10 ** more)
                for many in range(1, 9) for more in range(4)}
        left = 60000 - len(self.printed(house)) - len("; set c0: ")
        grown = house + (("set", 0, sums[left]),)
        self.same(len(self.printed(grown)), 60000)
        self.same(self.read(self.printed(grown)), grown)
        self.refuses(Long, 0, self.printed, house + (("set", 0, sums[left + 1]),))
        self.refuses(Long, 0, self.printed, grown + (("set", 0, 1),))

    def test_refusals(self):
        part = nested(lambda inner: ("-", inner, inner), 7, 1000000)
        faults = HOUSE_FAULTS + [((("set", 0, part),) * 200, Long, 0)]
        self.refuses_in_order(print_house, (WEB, WEB_FAULTS), (FOUR, NAMES_FAULTS), ((STAY,), faults))
        self.refuses(BadHouse, 0, print_house, ONE, ("hill",), ((("set", 0, -1)),))


if __name__ == "__main__":
    unittest.main()
