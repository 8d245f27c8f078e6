"""The desk: [18], [18.1] and the example of [18.2]."""

import random
import unittest

from treeandtrip.clusters import moats
from treeandtrip.desk import Desk
from treeandtrip.errors import BadText, Full, NoHouse, NoName, NoRun, NoTerms, NoWeb, Refused, Twice
from treeandtrip.foe import foe_day
from treeandtrip.housetexts import print_house, read_house
from treeandtrip.hunt import hunted
from treeandtrip.live import Live
from treeandtrip.lost import lost_paper
from treeandtrip.numbers import needed, reserve
from treeandtrip.plain import Plain
from treeandtrip.runtexts import print_run
from treeandtrip.terms import made_terms, most_asks
from treeandtrip.trees import least_tree, tree_length
from treeandtrip.webs import made_web
from treeandtrip.webtexts import print_terms, print_web
from treeandtrip.worths import free_ways, loan_gain, notice_gain, place_gain, way_gain
from tests.day_samples import SOME, drawn_back, drawn_tells, terms_for
from tests.house_samples import busy_house
from tests.samples import ODD, deep
from tests.test_housetexts import house_questions
from tests.test_runtexts import day_told, drawn_words
from tests.test_webtexts import terms_told, web_questions, web_told
from tests.text_samples import KEPT, NAMES, NO_TEXTS, RULES, Asked, bad_signs, can_be, changed, loose, refusal, tight
from tests.text_samples import words_in

HEADS = [rule[4:].lower() for rule in RULES if rule.startswith("ROW_")]
RUNS = ("next", "back", "again", "foe", "lost", "hands", "owed", "log")


def told_of(refused):
    return f"refused: {refused[0].__name__} {refused[1]}"


class DeskByWords:
    """A desk by the table of [18] and the order of [18.1]."""

    def __init__(self):
        self.names, self.web, self.terms, self.houses, self.run = None, None, None, {}, None

    def row(self, text):
        head = [word for word, _ in words_in(text)][:1]
        refused = self.lacking(text, head) or self.wrong(text, head[0])
        if refused:
            return told_of(refused)
        words = [word for word, _ in words_in(text)]
        try:
            return getattr(self, "row_" + words[0])(words[1:])
        except Refused as error:
            return told_of((type(error), error.what))

    def lacking(self, text, head):
        """The second and the third question of [18.1]."""
        if not head:
            return BadText, 0
        if head[0] not in HEADS:
            return BadText, words_in(text)[0][1]
        if self.web is None and head != ["web"]:
            return NoWeb, 0
        if self.terms is None and head[0] not in ("web", "terms", "tree", "moats", "free", "house"):
            return NoTerms, 0
        of_live, of_plain = head[0] in ("back", "again"), head[0] == "owed"
        if head[0] in RUNS and (self.run is None or type(self.run) is (Plain if of_live else Live if of_plain else 0)):
            return NoRun, 0
        return None

    def wrong(self, text, head):
        """The fourth question of [18.1]."""
        rule = "PLAIN_NEXT" if head == "next" and type(self.run) is Plain else "ROW_" + head.upper()
        return refusal(rule, text, self.questions)

    def questions(self, words):
        if words[0][0] == "web":
            yield from web_questions(words[1:])
        elif words[0][0] == "house":
            yield from house_questions(self.names)(words[2:])
        elif words[0][0] != "terms":
            seen = []
            for at, (word, place) in enumerate(words):
                if at and can_be(word, "NAME"):
                    if words[0][0] == "hunt" and word not in self.houses:
                        yield NoHouse, place
                    if words[0][0] != "hunt" and word not in self.names:
                        yield NoName, place
                    if words[0][0] == "place" and word in seen:
                        yield Twice, place
                    seen.append(word)

    def listed(self, items, sign="; "):
        return sign.join(items) or "-"

    def ways(self, ways):
        return self.listed([f"{self.names[u]} - {self.names[v]} {days}" for u, v, days in ways])

    def lot(self, places):
        return " ".join(self.names[place] for place in places)

    def row_web(self, words):
        names, web = web_told(" ".join(words))
        made_web(web)
        self.__init__()
        self.names, self.web = names, web
        return f"{len(names)} places, {len(web[1])} ways"

    def row_terms(self, words):
        self.terms = made_terms(self.web, terms_told(" ".join(words)))
        self.run = None
        return "ok"

    def row_number(self, _):
        tree = least_tree(self.web)
        numbers = most_asks(self.web, self.terms), tree_length(self.web, tree), reserve(self.web, self.terms, tree)
        return "{} * ({} + {}) = {}".format(*numbers, needed(self.web, self.terms))

    def row_tree(self, _):
        return self.ways(least_tree(self.web))

    def row_moats(self, _):
        return self.listed([f"{self.lot(lot)}: {days}" for lot, days in moats(self.web)])

    def row_gain(self, words):
        return str(way_gain(self.web, self.terms, *[self.names.index(word) for word in words[:2]], int(words[2])))

    def row_free(self, _):
        return self.ways(free_ways(self.web))

    def row_notice(self, _):
        return str(notice_gain(self.web, self.terms))

    def row_loan(self, _):
        return str(loan_gain(self.web, self.terms))

    def row_place(self, words):
        row = sorted((self.names.index(words[at]), int(words[at + 1])) for at in range(0, len(words), 3))
        return str(place_gain(self.web, self.terms, tuple(row)))

    def row_house(self, words):
        house = read_house(self.web, self.names, " ".join(words[1:]))
        if words[0] not in self.houses and len(self.houses) == 20:
            raise Full(20)
        self.houses[words[0]] = house
        return "ok"

    def row_hunt(self, words):
        found = hunted(self.web, self.terms, self.houses[words[0]], tuple(map(int, words[1:])))
        return "stands" if found is None else f"lacks on day {len(found[0][1])} at {self.names[found[2][-1][0]]}"

    def row_plain(self, words):
        self.run = Plain(self.web, self.terms, least_tree(self.web), self.names.index(words[0]))
        return "begun"

    def row_live(self, words):
        self.run = Live(self.web, self.terms, tuple(map(int, words)))
        return "begun"

    def row_next(self, words):
        day = day_told(self.names, ["day"] + words)
        if type(self.run) is Live:
            self.run.take(day)
            return "done"
        sends = self.run.take(*day[:2])
        return self.listed([f"{self.names[u]} to {self.names[v]} {many}" for u, v, many in sends], ", ")

    def row_back(self, _):
        self.run.back()
        return "done"

    def row_again(self, _):
        self.run.again()
        return "done"

    def row_foe(self, _):
        tells, asks = foe_day(self.web, self.terms, self.run.moment())
        return tight(drawn_words(self.names, ((), ((tells, asks, ()),)))[3:])

    def row_lost(self, _):
        paper = lost_paper(self.web, self.terms, self.run.moment())
        return "-" if paper is None else f"{paper[0]}: {self.lot(paper[1])}"

    def row_hands(self, _):
        return " ".join(map(str, self.run.moment()[0]))

    def row_owed(self, _):
        return self.listed([f"{days} {self.names[x]} {many}" for days, x, many in self.run.owed()])

    def row_log(self, _):
        return print_run(self.web, self.names, self.terms, self.run.run())


class Drawn(Asked):

    def test_rows(self):
        draw = random.Random(183)
        told = {}
        for web in SOME + SOME:
            desk, words = Desk(), DeskByWords()
            terms = draw.choice(terms_for(web))
            names = tuple(draw.sample(NAMES, web[0]))
            for _ in range(70):
                text = loose(draw, self.drawn_row(draw, web, names, terms, words))
                reply = desk.row(text)
                self.same(reply, words.row(text), text)
                kind = reply.split()[1] if reply.startswith("refused") else (words_in(text)[0][0], type(words.run))
                told[kind] = told.get(kind, 0) + 1
        for kind in ["BadText", "NoWeb", "NoTerms", "NoRun", "NoName", "NoHouse", "BadHands"]:
            self.assertGreater(told.get(kind, 0), 3, told)
        for sort, never in ((Plain, ["live", "back", "again"]), (Live, ["plain", "owed"])):
            for head in HEADS:
                # A new web and new terms leave no run.
                if head not in never + ["web", "terms"]:
                    self.assertGreater(told.get((head, sort), 0), 1, (head, sort, told))

    def drawn_row(self, draw, web, names, terms, desk):
        """The words of a row, most of which the desk will do."""
        if desk.web is None and draw.random() < 0.8:
            words = [word for word, _ in words_in("web " + print_web(web, names))]
        elif desk.terms is None and draw.random() < 0.7:
            words = [word for word, _ in words_in("terms " + print_terms(web, terms))]
        else:
            words = self.words_for(draw, web, names, terms, desk)
        return changed(draw, words) if draw.random() < 0.15 else words

    def words_for(self, draw, web, names, terms, desk):
        often = ["plain", "live", "back", "again", "place", "gain", "hunt", "house"]
        head = draw.choice(HEADS + ["next"] * 12 + often * 2)
        spot, days = draw.choice(names), str(draw.randint(1, 6))
        if head in ("web", "terms") and draw.random() < 0.9:
            return ["tree"]
        if head in ("web", "terms"):
            text = print_web(web, names) if head == "web" else print_terms(web, terms)
            return [head] + [word for word, _ in words_in(text)]
        if head == "gain":
            return [head, spot, draw.choice(names), days]
        if head == "place":
            row = draw.sample(names, draw.randint(1, len(names)))
            return [head] + " , ".join(f"{name} {draw.randint(1, 9)}" for name in row).split()
        if head == "house":
            text = print_house(web, names, busy_house(draw, web))
            return [head, draw.choice(["stay", "go", spot])] + [word for word, _ in words_in(text)]
        if head == "hunt":
            hands = [str(draw.randint(0, 9)) for _ in names]
            return [head, draw.choice(list(desk.houses) + ["go"])] + hands
        if head == "plain":
            return [head, spot]
        if head == "live":
            return [head] + [str(draw.randint(0, 6)) for _ in names]
        if head == "next" and desk.run is not None and desk.terms is not None:
            return [head] + self.deeds_for(draw, desk)
        return [head]

    def deeds_for(self, draw, desk):
        web, terms, moment = desk.web, desk.terms, desk.run.moment()
        tells = drawn_tells(draw, web, terms, moment)
        places = [draw.randrange(web[0]) for _ in range(draw.randint(0, 2))]
        asks = tuple((place, drawn_back(draw, web, terms, place)) for place in places[:terms[1]])
        sends = () if type(desk.run) is Plain or not web[1] else (draw.choice(web[1])[:2] + (draw.randint(1, 2),),)
        return drawn_words(desk.names, ((), ((tells, asks, sends[:draw.randint(0, 1)]),)))[3:]


class Rows(Asked):

    def desk(self, *rows):
        """A desk at which these rows were done."""
        desk = Desk()
        for row in rows:
            self.assertFalse(desk.row(row).startswith("refused"), (row, desk.row(row)))
        return desk

    def replies(self, desk, *pairs):
        for row, reply in pairs:
            self.same(desk.row(row), reply, row)


FOUR = "web places hill, dale, mill, moor; hill - dale 1; dale - mill 2; hill - mill 3; mill - moor 4"
LOANS = "terms loans 1 a day, 3 days, 1 ahead"
TWO = "web places hill, dale; hill - dale 1"
QUICK = "terms loans 1 a day, 1 days, 0 ahead"


class Table(Rows):

    def test_web(self):
        forty = "web places " + ", ".join(NAMES)
        self.replies(
            Desk(), ("web places c", "1 places, 0 ways"), (TWO, "2 places, 1 ways"), (FOUR, "4 places, 4 ways"),
            ("web places b, d", "refused: Parted 1"), ("web places b, b", "refused: Twice 14"),
            ("web places b, d; b - d 201", "refused: BadDays 23"), ("web places b, d; b - b 1", "refused: NotTwo 21"),
            ("web places b, d; b - e 1", "refused: NoName 21"), ("web", "refused: BadText 3"),
            ("web places", "refused: BadText 10"), ("web hill", "refused: BadText 4"),
            (forty + ", more", f"refused: TooMany {len(forty) + 2}"), (forty, "refused: Parted 1"),
            ("tree", "hill - dale 1; dale - mill 2; mill - moor 4"))

    def test_terms(self):
        self.replies(
            self.desk(TWO), (QUICK, "ok"), ("terms trips 2 a day: 0 3; 4 0", "ok"), ("number", "2 * (1 + 4) = 10"),
            ("terms trips 2 a day: 0 3; 4 1", "refused: BadTerms 2"),
            ("terms loans 1 a day, 1 days, 2 ahead", "refused: BadTerms 3"),
            ("terms loans 1 a day, 1 days 0 ahead", "refused: BadText 28"), ("terms", "refused: BadText 5"),
            ("terms trips 2 a day: 0", "refused: BadTerms 2"), ("number", "2 * (1 + 4) = 10"))
        self.replies(self.desk("web places c"), ("terms trips 1 a day: 0", "refused: BadTerms 0"))

    def test_what_nothing_changes(self):
        desk = self.desk(FOUR, LOANS)
        self.replies(
            desk, ("number", "1 * (7 + 6) = 13"), ("tree", "hill - dale 1; dale - mill 2; mill - moor 4"),
            ("moats", "hill: 1; dale: 1; mill: 2; moor: 4; hill dale: 1; hill dale mill: 2"), ("free", "hill - mill 3"),
            ("gain hill moor 3", "2"), ("gain mill hill 2", "0"), ("gain mill moor 5", "-2"),
            ("gain hill hill 1", "refused: BadPlace 1"),
            ("gain hill moor 0", "refused: BadDays 0"), ("gain hill moor 201", "refused: BadDays 0"),
            ("gain hill moor 9999999", "refused: BadDays 0"), ("gain hill hall 0", "refused: NoName 10"),
            ("gain hall hall 0", "refused: NoName 5"), ("gain hill moor", "refused: BadText 14"),
            ("gain hill moor 1 1", "refused: BadText 17"), ("notice", "1"), ("loan", "1"), ("place hill 1", "1"),
            ("place moor 2, mill 2", "-2"), ("place hill 0", "refused: BadRow 0"),
            ("place hill 201", "refused: BadRow 0"),
            ("place hill 1, hill 1", "refused: Twice 14"), ("place hill 1, hall 1", "refused: NoName 14"),
            ("place hill 1,", "refused: BadText 13"), ("place hill", "refused: BadText 10"),
            ("place", "refused: BadText 5"),
            ("place hill 0, dale 0, hill", "refused: Twice 22"))
        one = self.desk("web places hill", LOANS)
        self.replies(
            one, ("number", "1 * (0 + 3) = 3"), ("tree", "-"), ("moats", "-"), ("free", "-"), ("notice", "0"),
            ("loan", "1"),
            ("place hill 200", "399"))
        trips = self.desk(TWO, "terms trips 2 a day: 0 3; 4 0")
        self.replies(trips, ("loan", "refused: BadTerms 0"), ("place hill 1", "refused: BadTerms 0"), ("notice", "0"))

    def test_without_terms(self):
        self.replies(
            self.desk(FOUR), ("tree", "hill - dale 1; dale - mill 2; mill - moor 4"), ("free", "hill - mill 3"),
            ("moats", "hill: 1; dale: 1; mill: 2; moor: 4; hill dale: 1; hill dale mill: 2"), ("house go -", "ok"),
            (LOANS, "ok"), ("hunt go 99 99 99 99", "stands"))

    def test_forty_places(self):
        ways = "".join(f"; hill - {name} 200" for name in NAMES[1:])
        desk = self.desk("web places " + ", ".join(NAMES) + ways, "terms loans 20 a day, 200 days, 0 ahead")
        self.replies(
            desk, ("number", "20 * (7800 + 400) = 164000"), ("place hill 1", "refused: TooMany 41"),
            ("place hill 0", "refused: BadRow 0"), ("plain p26", "begun"), ("foe", "ask " + ", ".join(["p26"] * 20)),
            ("next ask " + ", ".join(["p25"] * 20), "hill to p25 20, p26 to hill 20"))
        self.assertEqual(len(desk.row("tree").split(";")), 39)

    def test_houses_and_hunts(self):
        desk = self.desk(TWO, "terms loans 1 a day, 1 days, 1 ahead")
        plain = "send hill to dale: asked dale - told dale; send dale to hill: told dale - asked dale"
        self.replies(
            desk, ("hunt stay 1 1", "refused: NoHouse 5"), ("house stay -", "ok"),
            ("hunt stay 0 2", "lacks on day 0 at hill"),
            ("house stay " + plain, "ok"), ("hunt stay 1 1", "stands"), ("hunt stay 1 0", "lacks on day 0 at dale"),
            ("hunt stay 1", "refused: BadHands -1"), ("hunt stay 1 200001", "refused: BadHands 1"),
            ("hunt stay 200000 1", "refused: TooMany 200001"), ("hunt stay", "refused: BadText 9"),
            ("hunt go 1", "refused: NoHouse 5"), ("hunt go", "refused: NoHouse 5"),
            ("hunt day 1 1", "refused: BadText 5"),
            ("hunt 1 1", "refused: BadText 5"), ("house hill set c0: 1", "ok"), ("house hunt -", "ok"),
            ("hunt hunt 2 1", "stands"),
            ("house day -", "refused: BadText 6"), ("house c1 -", "refused: BadText 6"),
            ("house -", "refused: BadText 6"),
            ("house go", "refused: BadText 8"), ("house go set c16: 1", "refused: BadText 13"),
            ("house go set c0: mill", "refused: NoName 17"), ("house go times c0 41 { - }", "refused: BadMany 18"),
            ("house go set c0: 1 + 1 + 1 + 1 + 1 + 1 + 1 + 1 + 1", "refused: TooDeep 0"),
            ("house go " + "if 1 { " * 6, "refused: TooDeep 49"), ("hunt go 1 1", "refused: NoHouse 5"))

    def test_hunts_on_one_place(self):
        desk = self.desk("web places c", "terms loans 2 a day, 3 days, 0 ahead", "house h -")
        self.replies(
            desk, ("hunt h 6", "stands"), ("hunt h 5", "lacks on day 2 at c"), ("hunt h 0", "lacks on day 0 at c"))

    def test_twenty_houses(self):
        desk = self.desk(TWO, *[f"house h{at} -" for at in range(20)])
        self.replies(
            desk, ("house h20 -", "refused: Full 20"), ("house h7 set c0: 1", "ok"),
            ("house h20 x", "refused: BadText 10"),
            ("house h20 set c0: x", "refused: NoName 18"),
            ("house h20 set c0: " + "1+" * 9 + "1", "refused: TooDeep 0"),
            (QUICK, "ok"), ("hunt h20 1 1", "refused: NoHouse 5"), ("hunt h19 2 1", "stands"),
            (TWO, "2 places, 1 ways"),
            ("house h20 -", "ok"))

    def test_plain(self):
        desk = self.desk(FOUR, LOANS)
        self.replies(
            desk, ("plain mill", "begun"), ("hands", "1 2 6 4"), ("plain hill", "begun"), ("hands", "6 1 2 4"),
            ("next ask moor", "hill to dale 1, dale to mill 1, mill to moor 1"), ("owed", "-"), ("next", "-"),
            ("next", "refused: Untold 0"), ("next tell 0 mill", "-"), ("owed", "1 mill 1; 2 dale 1"),
            ("hands", "5 1 2 3"),
            ("back", "refused: NoRun 0"), ("again", "refused: NoRun 0"),
            ("next send hill to dale 1", "refused: BadText 5"),
            ("next ask hill send hill to dale 1", "refused: BadText 14"), ("next tell 0 hill", "refused: BadTells 0"),
            ("next ask hill, hill", "refused: BadAsks -1"), ("next ask hall", "refused: NoName 9"), ("lost", "-"),
            ("foe", "ask hill"), ("next", "-"), ("next", "mill to dale 1"), ("next", "dale to hill 1"),
            ("log", "hands 6 1 2 4; day ask moor send hill to dale 1, dale to mill 1, mill to moor 1; day; "
             "day tell 0 mill; day; day send mill to dale 1; day send dale to hill 1"),
            ("plain hall", "refused: NoName 6"), ("plain", "refused: BadText 5"),
            ("plain hill dale", "refused: BadText 11"))

    def test_live(self):
        desk = self.desk(TWO, QUICK)
        self.replies(
            desk, ("live 1 1", "begun"), ("next ask hill", "done"), ("lost", "0: hill"), ("back", "done"),
            ("lost", "-"),
            ("back", "refused: NothingBack 0"), ("again", "done"), ("again", "refused: NothingAgain 0"),
            ("foe", "tell 0 dale ask hill"), ("next tell 0 dale ask hill", "refused: Lacks 0"),
            ("next", "refused: Untold 0"),
            ("next ask hill home dale in 1", "refused: BadAsks 0"), ("owed", "refused: NoRun 0"), ("hands", "0 1"),
            ("next tell 0 hill ask hill send dale to hill 1", "done"), ("log",
             "hands 1 1; day ask hill; day tell 0 hill ask hill send dale to hill 1"), ("back", "done"), ("back",
             "done"),
            ("next send hill to dale 2", "refused: TooFew 0"), ("next send hill to hill 1", "refused: BadSends 0"),
            ("again", "done"), ("back", "done"), ("next", "done"), ("again", "refused: NothingAgain 0"),
            ("log", "hands 1 1; day"), ("live 1", "refused: BadHands -1"), ("live", "refused: BadText 4"),
            ("live 200000 1", "refused: TooMany 200001"), ("live 1 200001", "refused: BadHands 1"),
            ("live 10000000 1", "refused: BadText 5"), ("live hill", "refused: BadText 5"), ("log", "hands 1 1; day"))

    def test_the_foe_and_lost(self):
        desk = self.desk(FOUR, "terms loans 2 a day, 3 days, 3 ahead", "live 0 9 9 9")
        self.replies(desk, ("foe", "ask hill home dale in 3"), ("lost", "0: hill"))
        desk = self.desk(FOUR, "terms loans 2 a day, 3 days, 3 ahead", "live 2 1 60 60")
        self.replies(desk, ("lost", "0: dale"), ("foe", "ask dale home hill in 3, dale home hill in 3"))
        desk = self.desk(FOUR, "terms loans 1 a day, 3 days, 1 ahead", "live 1 1 60 60")
        self.replies(desk, ("lost", "1: hill dale"), ("foe", "ask hill"))
        desk = self.desk(FOUR, "terms loans 3 a day, 2 days, 1 ahead", "live 60 60 60 60", "next ask hill, dale, mill")
        self.replies(desk, ("foe", "tell 0 hill, 1 hill, 2 hill ask moor, hill, dale"))

    def test_600_days(self):
        for begin in ("live 1 1", "plain hill"):
            desk = self.desk(TWO, QUICK, begin)
            for _ in range(600):
                desk.row("next")
            self.replies(desk, ("next", "refused: TooMany 601"), ("next ask dale, dale", "refused: BadAsks -1"))
            self.same(desk.row("log").count("; day"), 600)

    def test_a_long_log(self):
        web = "web places abcdefghijkl, b; abcdefghijkl - b 1"
        desk = self.desk(web, "terms loans 20 a day, 1 days, 1 ahead", "live 30 30")
        row = "next ask " + ", ".join(["abcdefghijkl home abcdefghijkl in 1"] * 20)
        for _ in range(70):
            self.same(desk.row(row), "done")
        self.assertGreater(len(desk.row("log")), 50000)
        for _ in range(30):
            desk.row(row)
        self.replies(desk, ("log", "refused: Long 0"), ("hands", "10 30"))


class Refusals(Rows):

    def test_no_text(self):
        for desk in (Desk(), self.desk(FOUR, LOANS, "plain hill")):
            for thing in [thing for thing, _, _ in NO_TEXTS] + [thing for thing in ODD if not isinstance(thing, str)]:
                self.same(desk.row(thing), "refused: BadText -1")
            for text, index in bad_signs("gain hill dale 1"):
                self.same(desk.row(text), f"refused: BadText {index}")
            self.replies(
                desk, ("", "refused: BadText 0"), ("    ", "refused: BadText 0"), ("x\n", "refused: BadText 1"),
                (" " * 60000, "refused: BadText 0"), (" " * 60001, "refused: BadText 60000"),
                (" " * 59990 + "x", "refused: BadText 59990"))

    def test_first_words(self):
        for desk in (Desk(), self.desk(FOUR), self.desk(FOUR, LOANS, "live 1 1 1 1")):
            for word in ["hill", "1", "-", ";", "Web", "webs", "numbers", "c1", "NUMBER", "%"] + KEPT:
                if word != "hands":
                    self.replies(desk, (word, "refused: BadText 0"), ("  " + word + " hill", "refused: BadText 2"))

    def test_what_lacks(self):
        desk = Desk()
        rest = {"terms": " loans", "gain": " hall", "place": " hall", "house": " day", "hunt": " go", "live": " hill"}
        for head in HEADS:
            if head != "web":
                self.replies(desk, (head, "refused: NoWeb 0"), (head + rest.get(head, " 1a"), "refused: NoWeb 0"))
        desk = self.desk(FOUR)
        for head in HEADS:
            if head not in ("web", "terms", "tree", "moats", "free", "house"):
                self.replies(desk, (head, "refused: NoTerms 0"), (head + rest.get(head, " 1a"), "refused: NoTerms 0"))
        desk = self.desk(FOUR, LOANS)
        for head in RUNS:
            self.replies(desk, (head, "refused: NoRun 0"), (head + " 1a", "refused: NoRun 0"))
        desk = self.desk(FOUR, LOANS, "live 1 1 1 1")
        self.replies(desk, ("owed", "refused: NoRun 0"), ("owed 1", "refused: NoRun 0"))
        desk = self.desk(FOUR, LOANS, "plain hill")
        for head in ("back", "again"):
            self.replies(desk, (head, "refused: NoRun 0"), (head + " x", "refused: NoRun 0"))

    def test_behind_the_last_word(self):
        for begin in ("plain hill", "live 1 1 1 1"):
            desk = self.desk(FOUR, LOANS, "house go -", begin)
            for row in [
                    "number", "tree", "moats", "gain hill dale 1", "free", "notice", "loan", "house go -", "plain hill",
                    "foe", "lost", "hands", "log"]:
                for more in ("hill", "-", "1a", "}", "send"):
                    self.same(desk.row(row + " " + more), f"refused: BadText {len(row) + 1}")
            for row in (["owed"] if begin[0] == "p" else ["back", "again"]):
                self.replies(desk, (row + " 1", f"refused: BadText {len(row) + 1}"))

    def test_a_refused_row_changes_nothing(self):
        asked = ("number", "tree", "hunt go 9 9 9 9", "hands", "lost", "foe", "log", "owed", "free", "moats")
        for begin in ("plain hill", "live 6 1 2 4"):
            desk = self.desk(FOUR, LOANS, "house go send hill to dale: 1", begin, "next ask moor")
            before = [desk.row(row) for row in asked]
            for row in [
                    "web places b, d", "web places b; b", "web places x y", "terms loans 2 a day, 1 days, 2 ahead",
                    "terms loans 2 a day", "terms loans 2 a day, 1 days, 1 ahead x",
                    "house go set c0: " + "1+" * 9 + "1",
                    "house go - -", "house go set c0: hall", "plain hall", "plain hill x", "live 1 1 1", "live 1 1 1 x",
                    "next ask hill, hill", "next tell 1 hill", "next ask hill home dale in 2", "next ask x", "next x",
                    None, "x"]:
                self.assertTrue(desk.row(row).startswith("refused"), row)
                self.same([desk.row(row) for row in asked], before)

    def test_what_a_new_web_and_new_terms_leave(self):
        desk = self.desk(TWO, QUICK, "house go -", "plain hill")
        self.replies(
            desk, (QUICK, "ok"), ("hands", "refused: NoRun 0"), ("hunt go 2 1", "stands"), ("live 1 1", "begun"),
            ("hands", "1 1"), (TWO, "2 places, 1 ways"), ("hands", "refused: NoTerms 0"),
            ("number", "refused: NoTerms 0"),
            (QUICK, "ok"), ("hands", "refused: NoRun 0"), ("hunt go 2 1", "refused: NoHouse 5"))

    def test_a_run_takes_the_place_of_the_other(self):
        desk = self.desk(TWO, QUICK, "plain hill", "next ask hill", "live 3 3")
        self.replies(
            desk, ("log", "hands 3 3"), ("next", "done"), ("plain dale", "begun"), ("log", "hands 1 2"),
            ("back", "refused: NoRun 0"), ("live 0 0", "begun"), ("back", "refused: NothingBack 0"))

    def test_two_desks_share_nothing(self):
        self.desk(TWO, QUICK)
        self.replies(Desk(), ("tree", "refused: NoWeb 0"))

    def test_by_name(self):
        self.same(Desk().row(text="tree"), "refused: NoWeb 0")
        self.same(Desk().row(text=deep(lambda thing: (thing,))), "refused: BadText -1")


if __name__ == "__main__":
    unittest.main()
