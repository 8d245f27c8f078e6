"""The texts of webs and terms: [17.1] to [17.5] and [17.8]."""

import random
import unittest

from treeandtrip.errors import BadDays, BadTerms, BadText, NoName, NotTwo, Parted, TooMany, Twice
from treeandtrip.terms import made_terms
from treeandtrip.webs import made_web
from treeandtrip.webtexts import print_terms, print_web, read_terms, read_web
from tests.day_samples import terms_for
from tests.samples import BIG, FORK, LOANS, ONE, ORDINARY, TERMS_FAULTS, TRIPS, WEB, WEB_FAULTS, alike
from tests.text_samples import FOUR, NAMES, NAMES_FAULTS, NO_NAMES, NO_TEXTS, Asked, bad_signs, changed, loose, refusal
from tests.text_samples import tight, words_in

TWO = (2, ((0, 1, 1),))
TEXT = "places hill, dale, mill; mill - dale 2; hill - dale 1"


def web_questions(words):
    """(error, place) for each question of [17.4] that is answered with an error, in the order of the words."""
    names, joined, way = [], [], None
    for word, place in words[1:]:
        if word == ";":
            way = []
        elif way is None and word != ",":
            if len(names) == 40:
                yield TooMany, place
            if word in names:
                yield Twice, place
            names.append(word)
        elif way is not None and word != "-":
            way.append(word)
            if len(way) < 3 and word not in names:
                yield NoName, place
            if len(way) == 2 and way[0] == way[1]:
                yield NotTwo, place
            if len(way) == 2 and set(way) in joined:
                yield Twice, place
            joined.append(set(way))
            if len(way) == 3 and not 1 <= int(word) <= 200:
                yield BadDays, place


def web_told(text):
    """The names and the web of a text in which no word is wrong."""
    names, *ways = [[word for word, _ in words_in(part)] for part in text.split(";")]
    names = tuple(names[1::2])
    joined = sorted(tuple(sorted((names.index(way[0]), names.index(way[2])))) + (int(way[3]),) for way in ways)
    return names, (len(names), tuple(joined))


def terms_told(text):
    """The terms of a text in which no word is wrong."""
    words = [word for word, _ in words_in(text)]
    if words[0] == "loans":
        return ("loans",) + tuple(int(word) for word in words[1::4][:1] + words[5::3][:2])
    table = " ".join(words[5:]).split(";")
    return "trips", int(words[1]), tuple(tuple(int(word) for word in row.split()) for row in table)


class ReadWeb(Asked):

    def wanted(self, text):
        wrong = refusal("WEB", text, web_questions)
        if wrong:
            return wrong
        names, web = web_told(text)
        made = self.outcome(made_web, web)
        return made if made != web else (names, web)

    def drawn_words(self, draw, web):
        """The words of a text of the web, with its ways in any order and either way round."""
        names = draw.sample(NAMES, web[0])
        words = ["places"] + " , ".join(names).split()
        for u, v, days in draw.sample(web[1], len(web[1])):
            ends = draw.sample([names[u], names[v]], 2)
            words += [";", ends[0], "-", ends[1], str(days)]
        return tuple(names), words

    def test_drawn(self):
        draw = random.Random(170)
        for web in ORDINARY + [alike(12), BIG]:
            names, words = self.drawn_words(draw, web)
            self.same(read_web(loose(draw, words)), (names, web))
            self.same(read_web(tight(words)), (names, web))

    def test_a_word_changed(self):
        draw = random.Random(171)
        told = {}
        for web in ORDINARY:
            for _ in range(25):
                words = changed(draw, self.drawn_words(draw, web)[1])
                for _ in range(draw.choice([0, 0, 1])):
                    words = changed(draw, words)
                text = loose(draw, words)
                wanted = self.wanted(text)
                self.tells(wanted, read_web, text)
                told[wanted[0]] = told.get(wanted[0], 0) + 1
        for error in (BadText, NoName, NotTwo, Twice, BadDays, Parted):
            self.assertGreater(told.get(error, 0), 5, (error, told))

    def test_each_word(self):
        for error, what, text in [
                (BadText, 0, ""), (BadText, 2, "  "), (BadText, 0, "place hill"), (BadText, 6, "places"),
                (BadText, 8, "places  "), (BadText, 7, "places day"), (BadText, 7, "places c16"),
                (BadText, 7, "places c0"), (BadText, 7, "places 1"), (BadText, 7, "places hills4twelves"),
                (BadText, 7, "places Hill"), (BadText, 12, "places hill dale"), (BadText, 12, "places hill,"),
                (BadText, 13, "places hill, "), (BadText, 13, "places hill; "), (BadText, 6, "places,"),
                (BadText, 12, "places hill;"), (BadText, 17, "places b, d; b - "), (BadText, 15, "places b, d; b d 1"),
                (BadText, 17, "places b, d; b - 1"), (BadText, 18, "places b, d; b - d"),
                (BadText, 19, "places b, d; b - d d"), (BadText, 19, "places b, d; b - d 01"),
                (BadText, 19, "places b, d; b - d 12345678"), (BadText, 19, "places b, d; b - d -1"),
                (BadText, 21, "places b, d; b - d 1;"), (BadText, 21, "places b, d; b - d 1 2"),
                (BadText, 20, "places b, d; b - d 1, x"), (BadText, 10, "places b, ;"),
                (Twice, 10, "places b, b"), (Twice, 13, "places b, d, b"), (Twice, 10, "places b, b d"),
                (NoName, 13, "places b, d; x - b 1"), (NoName, 17, "places b, d; b - x 1"),
                (NoName, 13, "places b, d; x"), (NoName, 13, "places b, d; x d"),
                (NotTwo, 19, "places b, d; b  -  b 3"),
                (NotTwo, 17, "places b, d; b - b"), (NoName, 17, "places b, d; b - x"),
                (BadDays, 19, "places b, d; b - d 0"), (BadDays, 19, "places b, d; b - d 201"),
                (BadDays, 19, "places b, d; b - d 9999999"), (BadDays, 19, "places b, d; b - d 0 0"),
                (Twice, 26, "places b, d; b - d 1; b - d 2"), (Twice, 26, "places b, d; b - d 1; d - b 1"),
                (Twice, 26, "places b, d; b - d 1; d - b"), (Parted, 1, "places b, d"),
                (Parted, 1, "places b,d,a1;d-a1 1"),
                (Parted, 2, "places b, d, e; b - d 200")]:
            self.assertEqual(self.wanted(text), (error, what), text)
            self.refuses(error, what, read_web, text)

    def test_good_texts(self):
        self.same(read_web(TEXT), (("hill", "dale", "mill"), (3, ((0, 1, 1), (1, 2, 2)))))
        self.same(read_web("  places c "), (("c",), ONE))
        self.same(read_web("places hill,dale;dale-hill 200"), (("hill", "dale"), (2, ((0, 1, 200),))))
        self.same(read_web("places b , d;b  -d  1"), (("b", "d"), TWO))
        self.same(read_web("places abcdefghijkl, web; web-abcdefghijkl 1"), (("abcdefghijkl", "web"), TWO))

    def test_kept_words_and_names(self):
        for word in NO_NAMES:
            if word.strip() and word.isascii() and len(words_in(word)) == 1 and word != "hill ":
                self.refuses(BadText, 7, read_web, "places " + word)
                self.refuses(BadText, 10, read_web, "places b, " + word)
        for name in NAMES + ("abcdefghijk1", "webs", "loan", "c0c", "cc", "c1a1", "daytime", "row"):
            self.same(read_web("places " + name), ((name,), ONE))

    def test_forty_places(self):
        text = "places " + ", ".join(NAMES)
        ways = "".join(f"; {NAMES[39]} - {name} 200" for name in NAMES[:39])
        self.same(read_web(text + ways), (NAMES, (40, tuple((place, 39, 200) for place in range(39)))))
        self.refuses(TooMany, len(text) + 2, read_web, text + ", more" + ways)
        self.refuses(TooMany, len(text) + 2, read_web, text + ", hill" + ways)
        self.refuses(BadText, len(text) + 2, read_web, text + ", day" + ways)
        self.refuses(Twice, 13, read_web, "places hill, hill, " + text[7:])

    def test_signs(self):
        for text, index in bad_signs(TEXT):
            self.refuses(BadText, index, read_web, text)
            self.refuses(BadText, index, read_terms, TWO, text)
        # The signs are looked at before any word is.
        self.refuses(BadText, 8, read_web, "1a wrong\n")
        self.refuses(BadText, 8, read_web, "places 1\x7f\n")
        self.refuses(BadText, 7, read_web, "places ~")
        for thing, error, what in NO_TEXTS:
            self.refuses(error, what, read_web, thing)

    def test_how_long_a_text_may_be(self):
        for many in (59999, 60000):
            self.same(read_web(TEXT + " " * (many - len(TEXT)))[0], ("hill", "dale", "mill"))
            self.refuses(BadText, many, read_web, "places" + " " * (many - 6))
            self.refuses(BadText, 0, read_web, "x" * many)
        for more in (1, 2, 5000):
            self.refuses(BadText, 60000, read_web, TEXT + " " * (60000 - len(TEXT) + more))
            self.refuses(BadText, 60000, read_web, "1" * 60000 + "\n" * more)
        self.refuses(BadText, 59999, read_web, "1" * 59999 + "\n" * 9)

    def test_by_name(self):
        self.by_name(read_web, text=TEXT)
        self.by_name(print_web, web=WEB, names=FOUR)


class PrintWeb(Asked):

    def test_drawn(self):
        for web in ORDINARY + [BIG, alike(40, 200)]:
            names = NAMES[:web[0]]
            text = print_web(web, names)
            words = ["places"] + " , ".join(names).split()
            for u, v, days in web[1]:
                words += [";", names[u], "-", names[v], str(days)]
            self.same(text, tight(words))
            self.same(read_web(text), (names, web))

    def test_examples(self):
        self.same(print_web((2, ((0, 1, 7),)), ("dale", "c")), "places dale, c; dale - c 7")
        self.same(print_web(ONE, ("hill",)), "places hill")

    def test_what_is_read_is_printed(self):
        draw = random.Random(172)
        for web in ORDINARY:
            names, words = ReadWeb().drawn_words(draw, web)
            again = print_web(web, names)
            self.same(print_web(*reversed(read_web(loose(draw, words)))), again)

    def test_refusals(self):
        self.refuses_in_order(print_web, (WEB, WEB_FAULTS), (FOUR, NAMES_FAULTS))


class ReadTerms(Asked):

    def wanted(self, web, text):
        wrong = refusal("TERMS", text, lambda words: iter(()))
        return wrong or self.outcome(made_terms, web, terms_told(text))

    def drawn_words(self, terms):
        if terms[0] == "loans":
            return f"loans {terms[1]} a day , {terms[2]} days , {terms[3]} ahead".split()
        rows = " ; ".join(" ".join(str(days) for days in row) for row in terms[2])
        return f"trips {terms[1]} a day : {rows}".split()

    def test_drawn(self):
        draw = random.Random(173)
        for web in ORDINARY:
            for terms in terms_for(web) + [("loans", 20, 200, 200)]:
                words = self.drawn_words(terms)
                self.same(read_terms(web, loose(draw, words)), terms)
                self.same(print_terms(web, terms), tight(words))
                self.same(read_terms(web, tight(words)), terms)

    def test_a_word_changed(self):
        draw = random.Random(174)
        told = {}
        for web in ORDINARY[1:]:
            for terms in terms_for(web)[-4:]:
                words = changed(draw, self.drawn_words(terms))
                for _ in range(draw.choice([0, 0, 1])):
                    words = changed(draw, words)
                text = loose(draw, words)
                wanted = self.wanted(web, text)
                self.tells(wanted, lambda each: read_terms(web, each), text)
                told[wanted[0]] = told.get(wanted[0], 0) + 1
        for kind in (BadText, BadTerms, "loans", "trips"):
            self.assertGreater(told.get(kind, 0), 3, told)

    def test_each_word(self):
        for error, what, text in [
                (BadText, 0, ""), (BadText, 0, "loan 1 a day, 1 days, 0 ahead"), (BadText, 6, "loans a day"),
                (BadText, 6, "loans 1a day"), (BadText, 8, "loans 1 day, 1 days, 0 ahead"), (BadText, 5, "loans"),
                (BadText, 10, "loans 1 a days"), (BadText, 14, "loans 1 a day 1 days"), (BadText, 7, "loans 1, 1, 0"),
                (BadText, 17, "loans 1 a day, 1 day, 0 ahead"), (BadText, 24, "loans 1 a day, 1 days,  ahead"),
                (BadText, 24, "loans 1 a day, 1 days, 0"), (BadText, 25, "loans 1 a day, 1 days, 0 days"),
                (BadText, 30, "loans 1 a day, 1 days, 0 ahead;"), (BadText, 6, "loans 01 a day, 1 days, 0 ahead"),
                (BadText, 6, "loans 10000000 a day, 1 days, 0 ahead"), (BadText, 13, "loans 1 a day: 0 1; 1 0"),
                (BadText, 13, "trips 1 a day, 1 days, 0 ahead"), (BadText, 14, "trips 1 a day:"),
                (BadText, 14, "trips 1 a day:; 0 1"), (BadText, 18, "trips 1 a day: 0 1,"),
                (BadText, 19, "trips 1 a day: 0 1;"),
                (BadText, 15, "trips 1 a day: x; 1 0"), (BadTerms, 1, "loans 0 a day, 1 days, 0 ahead"),
                (BadTerms, 1, "loans 9999999 a day, 0 days, 0 ahead"),
                (BadTerms, 2, "loans 1 a day, 201 days, 9 ahead"),
                (BadTerms, 3, "loans 1 a day, 1 days, 2 ahead"), (BadTerms, 1, "trips 21 a day: 0 1; 1 0"),
                (BadTerms, 2, "trips 1 a day: 0"), (BadTerms, 2, "trips 1 a day: 0 1; 1 0; 0 0"),
                (BadTerms, 2, "trips 1 a day: 0 1 1; 1 0"), (BadTerms, 2, "trips 1 a day: 1 1; 1 0"),
                (BadTerms, 2, "trips 1 a day: 0 201; 1 0")]:
            self.assertEqual(self.wanted(TWO, text), (error, what), text)
            self.refuses(error, what, read_terms, TWO, text)
        self.refuses(BadTerms, 0, read_terms, ONE, "trips 1 a day: 0")
        self.refuses(BadTerms, 0, read_terms, ONE, "trips 99 a day: 0 1; 1 0")

    def test_refusals(self):
        texts = NO_TEXTS + [(text, BadText, index) for text, index in bad_signs("loans 1 a day, 1 days, 0 ahead")]
        texts += [("loans 1 a day, 1 days, 2 ahead", BadTerms, 3), ("loans", BadText, 5)]
        self.refuses_in_order(read_terms, (WEB, WEB_FAULTS), ("loans 1 a day, 1 days, 0 ahead", texts))
        self.refuses_in_order(print_terms, (WEB, WEB_FAULTS), (LOANS, TERMS_FAULTS))

    def test_examples(self):
        self.same(read_terms(TWO, " trips 2 a day:0 5;4 0"), ("trips", 2, ((0, 5), (4, 0))))
        self.same(print_terms(TWO, ("trips", 2, ((0, 5), (4, 0)))), "trips 2 a day: 0 5; 4 0")
        self.same(print_terms(FORK, TRIPS), "trips 2 a day: 0 2 3; 2 0 5; 3 4 0")
        self.same(print_terms(ONE, ("loans", 1, 200, 0)), "loans 1 a day, 200 days, 0 ahead")

    def test_a_table_of_forty_places(self):
        table = tuple(tuple(0 if a == b else 200 for b in range(40)) for a in range(40))
        self.same(read_terms(BIG, print_terms(BIG, ("trips", 20, table))), ("trips", 20, table))

    def test_by_name(self):
        self.by_name(read_terms, web=TWO, text="loans 1 a day, 1 days, 0 ahead")
        self.by_name(print_terms, web=TWO, terms=LOANS)


if __name__ == "__main__":
    unittest.main()
