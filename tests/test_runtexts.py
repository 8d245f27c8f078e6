"""The texts of runs: [17.7], with [7], [8], [17.1] to [17.3] and [17.8]."""

import random
import unittest

from treeandtrip.errors import BadHands, BadRun, BadText, Long, NoName, TooMany
from treeandtrip.runs import made_run
from treeandtrip.runtexts import print_run, read_run
from tests.day_samples import RUN, RUN_FAULTS, SOME, STILL, days_by, drawn_run, terms_for
from tests.samples import BIG_ALIKE, LOANS, ONE, TERMS_FAULTS, WEB, WEB_FAULTS
from tests.text_samples import FOUR, NAMES, NAMES_FAULTS, NO_TEXTS, Asked, bad_signs, can_be, changed, loose, refusal
from tests.text_samples import tight, words_in

TWO = (2, ((0, 1, 1),))
PLACES = ("hill", "dale")
TERMS = ("loans", 1, 1, 1)
TEXT = "hands 1 1; day ask dale home hill in 1 send hill to dale 1; day"
TEXT_RUN = ((1, 1), (((), ((1, (1, 0)),), ((0, 1, 1),)), ((), (), ())))


def run_questions(names):
    """A function of words: (error, place) for each question of [17.7] that is answered with an error, in order."""
    def questions(words):
        days = 0
        for word, place in words:
            days += word == "day"
            if word == "day" and days > 600:
                yield TooMany, place
            if can_be(word, "NAME") and word not in names:
                yield NoName, place
    return questions


def drawn_words(names, run):
    """The words of a run."""
    hands, days = run
    words = ["hands"] + [str(many) for many in hands]
    for tells, asks, sends in days:
        words += [";", "day"]
        parts = [["tell"] + [[str(index), names[home]] for index, home in tells]]
        parts += [["ask"] + [[names[place]] + ([] if back is None else ["home", names[back[1]], "in", str(back[0])])
                             for place, back in asks]]
        parts += [["send"] + [[names[u], "to", names[v], str(many)] for u, v, many in sends]]
        for word, *items in parts:
            for at, item in enumerate(items):
                words += [word if at == 0 else ","] + item
    return words


def run_told(names, text):
    """The value of a text in which no word is wrong."""
    first, *days = [[word for word, _ in words_in(part)] for part in text.split(";")]
    return tuple(int(word) for word in first[1:]), tuple(day_told(names, words) for words in days)


def day_told(names, words):
    found, sort = {"tell": [], "ask": [], "send": []}, None
    for word in words[1:]:
        if word in found:
            sort = word
        if word in found or word == ",":
            found[sort].append([])
        elif word not in ("home", "in", "to"):
            found[sort][-1].append(names.index(word) if word in names else int(word))
    asks = tuple((ask[0], (ask[2], ask[1]) if len(ask) == 3 else None) for ask in found["ask"])
    return tuple(map(tuple, found["tell"])), asks, tuple(map(tuple, found["send"]))


class Runs(Asked):

    def read(self, text):
        return read_run(TWO, PLACES, TERMS, text)

    def drawn(self):
        """Drawn runs of webs and terms, with the names of the places."""
        for at, web in enumerate(SOME):
            for terms in terms_for(web):
                names = random.Random(at).sample(NAMES, web[0])
                yield web, tuple(names), terms, drawn_run(at, web, terms, at % 6)


class ReadRun(Runs):

    def test_drawn(self):
        draw = random.Random(181)
        for web, names, terms, run in self.drawn():
            words = drawn_words(names, run)
            text = print_run(web, names, terms, run)
            self.same(text, tight(words))
            self.same(read_run(web, names, terms, text), run)
            self.same(read_run(web, names, terms, loose(draw, words)), run)

    def test_a_word_changed(self):
        draw = random.Random(182)
        told = {}
        for web, names, terms, run in self.drawn():
            for _ in range(4):
                words = drawn_words(names, run)
                for _ in range(draw.choice([1, 1, 2])):
                    words = changed(draw, words)
                text = loose(draw, words)
                wanted = refusal("RUN", text, run_questions(names))
                wanted = wanted or self.outcome(made_run, web, terms, run_told(names, text))
                self.tells(wanted, lambda each: read_run(web, names, terms, each), text)
                told[wanted[0]] = told.get(wanted[0], 0) + 1
        for error in (BadText, NoName, BadRun, BadHands):
            self.assertGreater(told.get(error, 0), 5, told)
        self.assertGreater(sum(isinstance(kind, tuple) for kind in told), 20)

    def test_each_word(self):
        for error, what, text in [
                (BadText, 0, ""), (BadText, 0, "hand 1 1"), (BadText, 5, "hands"), (BadText, 5, "hands; day"),
                (BadText, 8, "hands 1 x"), (BadText, 8, "hands 1 01"), (BadText, 7, "hands 1, 1"),
                (BadText, 8, "hands 1 1y"),
                (BadText, 10, "hands 1 1 day"), (BadText, 10, "hands 1 1;"), (BadText, 11, "hands 1 1; ask hill"),
                (BadText, 15, "hands 1 1; day;"), (BadText, 16, "hands 1 1; day; tell 0 hill"),
                (BadText, 15, "hands 1 1; day hill"), (BadText, 19, "hands 1 1; day tell"),
                (BadText, 20, "hands 1 1; day tell hill"), (BadText, 21, "hands 1 1; day tell 0"),
                (BadText, 22, "hands 1 1; day tell 0 0"), (BadText, 27, "hands 1 1; day tell 0 hill,"),
                (BadText, 27, "hands 1 1; day tell 0 hill tell 0 hill"),
                (BadText, 28, "hands 1 1; day tell 0 hill, ask hill"),
                (BadText, 24, "hands 1 1; day ask hill tell 0 hill"), (BadText, 19, "hands 1 1; day ask 0"),
                (BadText, 24, "hands 1 1; day ask hill in 1"), (BadText, 28, "hands 1 1; day ask hill home"),
                (BadText, 33, "hands 1 1; day ask hill home hill"),
                (BadText, 36, "hands 1 1; day ask hill home hill in"),
                (BadText, 34, "hands 1 1; day ask hill home hill 1"), (BadText, 24, "hands 1 1; day ask hill 1"),
                (BadText, 25, "hands 1 1; day send hill dale 1"), (BadText, 32, "hands 1 1; day send hill to dale"),
                (BadText, 35, "hands 1 1; day send hill to dale 1 ask hill"),
                (BadText, 35, "hands 1 1; day send hill to dale 1,"),
                (BadText, 32, "hands 1 1; day send hill to dale,"),
                (NoName, 19, "hands 1 1; day ask mill home hill in 1"),
                (NoName, 29, "hands 1 1; day ask hill home mill in 1"), (NoName, 22, "hands 1 1; day tell 0 mill"),
                (NoName, 20, "hands 1 1; day send mill to hill 1"), (NoName, 28, "hands 1 1; day send hill to mill 1"),
                (NoName, 28, "hands 1 1; day send hill to mill x")]:
            self.assertEqual(refusal("RUN", text, run_questions(PLACES)), (error, what), text)
            self.refuses(error, what, self.read, text)

    def test_what_made_run_refuses(self):
        for error, what, text in [
                (BadRun, 0, "hands 1 1; day ask hill"), (BadRun, 1, "hands 1 1; day; day tell 0 hill"),
                (BadHands, -1, "hands 1"), (BadHands, -1, "hands 1 1 1; day ask hill"),
                (BadHands, 1, "hands 1 200001; day"),
                (TooMany, 200001, "hands 1 200000"), (BadHands, 0, "hands 9999999 9999999"),
                (BadRun, 0, "hands 1 1; day send hill to hill 1"), (BadRun, 0, "hands 1 1; day send hill to dale 2"),
                (BadRun, 0, "hands 1 1; day send hill to dale 0"), (BadRun, 0, "hands 1 1; day ask hill, hill")]:
            self.refuses(error, what, self.read, text)

    def test_good_texts(self):
        self.same(self.read(TEXT), TEXT_RUN)
        for text, days in [
                ("hands 1 1", ()), ("  hands 1 1  ;day;day ", (STILL, STILL)),
                ("hands 1 1;day ask hill home dale in 1", (
                    ((), ((0, (1, 1)),), ()),)), ("hands 1 1; day send dale to hill 1", (((), (), ((1, 0, 1),)),))]:
            self.same(self.read(text), ((1, 1), days))
        late = ("loans", 2, 3, 1)
        text = "hands 9 9; day ask hill, dale; day tell 0 hill, 1 dale ask hill home hill in 1, dale "
        text += "send hill to dale 1, dale to hill 2"
        self.same(read_run(TWO, PLACES, late, text), ((9, 9), (
            ((), ((0, None), (1, None)), ()), (((0, 0), (1, 1)), ((0, (1, 0)), (1, None)), ((0, 1, 1), (1, 0, 2))))))

    def test_600_days(self):
        text = "hands 1 1" + "; day" * 600
        self.same(self.read(text), ((1, 1), (STILL,) * 600))
        for more in ("", " ask hill", " ask mill", " x"):
            self.refuses(TooMany, len(text) + 2, self.read, text + "; day" + more)
        self.refuses(BadText, len(text) + 2, self.read, text + "; days")
        self.refuses(BadText, len(text) + 1, self.read, text + ";")
        self.refuses(BadText, len(text) + 1, self.read, text + " day")
        self.refuses(NoName, 19, self.read, "hands 1 1; day ask mill" + "; day" * 700)

    def test_signs(self):
        for text, index in bad_signs(TEXT):
            self.refuses(BadText, index, self.read, text)
        for many in (59999, 60000):
            self.same(self.read(TEXT + " " * (many - len(TEXT))), TEXT_RUN)
        self.refuses(BadText, 60000, self.read, TEXT + " " * 60000)

    def test_refusals(self):
        texts = NO_TEXTS + [("hands", BadText, 5), ("hands 6 1 2 4; day ask hall", NoName, 23)]
        texts += [("hands 1", BadHands, -1)]
        self.refuses_in_order(
            read_run, (WEB, WEB_FAULTS), (FOUR, NAMES_FAULTS), (LOANS, TERMS_FAULTS), ("hands 6 1 2 4", texts))

    def test_by_name(self):
        self.by_name(read_run, web=TWO, names=PLACES, terms=TERMS, text=TEXT)
        self.by_name(print_run, web=TWO, names=PLACES, terms=TERMS, run=TEXT_RUN)


class PrintRun(Runs):

    def test_examples(self):
        self.same(print_run(TWO, PLACES, TERMS, TEXT_RUN), TEXT)
        self.same(print_run(TWO, PLACES, TERMS, ((0, 7), ())), "hands 0 7")
        self.same(print_run(ONE, ("c",), LOANS, ((2,), (((), ((0, None),), ()),))), "hands 2; day ask c")

    def test_long_runs(self):
        """A run whose text has just 60,000 signs, and one with a sign more."""
        terms = ("loans", 20, 1, 1)
        days = ()
        for day in (((), ((1, (1, 1)),) * 20, ()), STILL):
            signs = len(self.printed(terms, (0, 20), (day,))) - len("hands 0 20")
            days += (day,) * ((60000 - len(self.printed(terms, (0, 20), days))) // signs)
        left = 60000 - len(self.printed(terms, (0, 20), days))
        # The hands have as many figures more as are left, and one more than these.
        hands = [(0, 20), (0, 200), (0, 2000), (0, 20000), (10, 20000), (100, 20000)]
        text = self.printed(terms, hands[left], days)
        self.same(len(text), 60000)
        self.same(read_run(TWO, PLACES, terms, text), (hands[left], days))
        self.refuses(Long, 0, self.printed, terms, hands[left + 1], days)
        self.refuses(Long, 0, self.printed, terms, hands[left], days + (STILL,))

    def printed(self, terms, hands, days):
        return print_run(TWO, PLACES, terms, (hands, days))

    def test_a_very_long_run(self):
        web, names = BIG_ALIKE, NAMES
        sends = tuple((u, v, 1) for u in range(40) for v in range(40) if u != v)
        days = (((), (), sends),) * 20
        self.refuses(Long, 0, print_run, web, names, ("loans", 1, 1, 1), ((5000,) * 40, days))

    def test_refusals(self):
        long_day = ((), (), tuple((u, v, 1) for u, v in sorted(days_by(WEB))))
        runs = RUN_FAULTS[::3] + [(((9999, 9999, 9999, 9999), (long_day,) * 600 + (None,)), BadRun, -1)]
        runs += [(((9999, 9999, 9999, 9999), (long_day,) * 600), Long, 0)]
        runs += [(((9999, 9999, 9999, 9999), (long_day,) * 599 + (None,)), BadRun, 599)]
        self.refuses_in_order(
            print_run, (WEB, WEB_FAULTS), (FOUR, NAMES_FAULTS), (LOANS, TERMS_FAULTS), (RUN, runs))


if __name__ == "__main__":
    unittest.main()
