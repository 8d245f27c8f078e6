"""Texts: the grammars of [17] as they stand there, where a text first breaks one, and texts with a word changed."""

import re

from treeandtrip.errors import BadNames, BadText, Refused
from tests.samples import Case, deep

GRAMMARS = """
WEB = places NAME ["," NAME]... [";" WAY]...
WAY = NAME "-" NAME NUMBER
TERMS = loans NUMBER a day "," NUMBER days "," NUMBER ahead
        /  trips NUMBER a day ":" ROW [";" ROW]...
ROW   = NUMBER [NUMBER]...
HOUSE = BODY
BODY  = "-"  /  S [";" S]...
S     = send E to E ":" E  /  set CELL ":" E  /  if E "{" BODY "}" else "{" BODY "}"
        /  times CELL NUMBER "{" BODY "}"
E     = SUM ["<" SUM]  /  SUM ["=" SUM]
SUM   = PART ["+" PART  /  "-" PART]...
PART  = ATOM ["*" ATOM  /  "/" ATOM]...
ATOM  = NUMBER  /  NAME  /  CELL  /  day  /  away  /  hand ATOM  /  asked ATOM  /  told ATOM
        /  bound ATOM in ATOM  /  min "(" E "," E ")"  /  max "(" E "," E ")"  /  "(" E ")"
RUN   = hands NUMBER [NUMBER]... [";" day DEEDS]...
DEEDS = [tell TELL ["," TELL]...] [ask ASK ["," ASK]...] [send SEND ["," SEND]...]
TELL  = NUMBER NAME
ASK   = NAME [home NAME in NUMBER]
SEND  = NAME to NAME NUMBER
"""
# The rows of the desk, as the table of [18] has them; for a `Plain` no `send` can stand in the deeds.
ROWS = """
ROW_WEB = web WEB
ROW_TERMS = terms TERMS
ROW_NUMBER = number
ROW_TREE = tree
ROW_MOATS = moats
ROW_GAIN = gain NAME NAME NUMBER
ROW_FREE = free
ROW_NOTICE = notice
ROW_LOAN = loan
ROW_PLACE = place NAME NUMBER ["," NAME NUMBER]...
ROW_HOUSE = house NAME BODY
ROW_HUNT = hunt NAME NUMBER [NUMBER]...
ROW_PLAIN = plain NAME
ROW_LIVE = live NUMBER [NUMBER]...
ROW_NEXT = next DEEDS
ROW_BACK = back
ROW_AGAIN = again
ROW_FOE = foe
ROW_LOST = lost
ROW_HANDS = hands
ROW_OWED = owed
ROW_LOG = log
PLAIN_NEXT = next [tell TELL ["," TELL]...] [ask ASK ["," ASK]...]
"""
KEPT = """
    places loans trips a day days ahead hands tell ask home in send to set if else times hand asked told away bound min
    max
""".split()
JUNK = ["1a", "007", "00", "12345678", "c16", "c007", "c00", "%", "A", "_", "abcdefghijklm", "~", "'", "."]
POOL = KEPT + JUNK + list(",;:-+*/<=(){}") + ["0", "1", "7", "40", "41", "201", "1000001", "9999999", "c0", "c15"]
POOL += ["hill", "dale", "mill", "web", "c", "c1x", "abcdefghijkl", "x9"]

NAMES = ("hill", "dale", "mill", "web", "c", "c1x", "x9", "abcdefghijkl", "z", "loan", "c9c", "tells", "number")
NAMES += tuple(f"p{number}" for number in range(27))
FOUR = NAMES[:4]
NO_NAMES = KEPT + JUNK + ["", " ", "hill ", "Hill", "hi ll", "c0", "c1", "c15", "c16", "c123", "1", "0", "hi-ll"]
NO_NAMES += ["h\u00e9", "hil\u0142", "\u0662"]
# Of a web with four places.
NAMES_FAULTS = [(thing, BadNames, -1) for thing in [
    None, True, 4, "abcd", (), FOUR[:3], FOUR + ("x",), list(FOUR), deep(lambda thing: (thing,)), ("a",) * 5]]
NAMES_FAULTS += [(("hill", name, "mill", "web"), BadNames, 1) for name in NO_NAMES]
NAMES_FAULTS += [(("hill", thing, "a", "a"), BadNames, 1) for thing in [
    None, True, 0, (), ("dale",), ["dale"], b"dale", deep(lambda thing: [thing])]]
NAMES_FAULTS += [
    (("hill", "dale", "hill", "dale"), BadNames, 2), (("hill", "dale", "mill", "mill"), BadNames, 3),
    (("day", "hill", "hill", "dale"), BadNames, 0), (("hill", "hill", None, "dale"), BadNames, 1),
]
NO_TEXTS = [(thing, BadText, -1) for thing in [
    None, True, False, 0, 10 ** 40, b"places hill", (), ("places hill",), ["places hill"], [],
    deep(lambda thing: (thing,))]]


def in_alternatives(words, made, name):
    """Read the alternatives of a rule up to a bracket that closes; new rules are put into `made`."""
    found = [[]]
    while words and words[0] != "]":
        word = words.pop(0)
        if word == "/":
            found.append([])
        elif word == "[":
            inner = f"{name}{len(made)}"
            made[inner] = None
            choices = in_alternatives(words, made, name)
            words.pop(0)
            if words and words[0] == "...":
                words.pop(0)
                choices = [choice + [inner] for choice in choices]
            made[inner] = [[]] + choices
            found[-1].append(inner)
        else:
            found[-1].append(word)
    return found


def rules_of(text):
    """The rules of the grammars, each a list of alternatives, each a list of words and names of rules."""
    made = {}
    for rule in re.split(r"\n(?=\S+ *=)", text.strip()):
        name, told = re.match(r"(\S+) *= (.*)", rule, re.DOTALL).groups()
        words = re.findall(r'"[^"]*"|\[|\]|\.\.\.|[^\s"\[\]]+', told)
        made[name] = in_alternatives(words, made, name.lower() + "#")
    return made


RULES = rules_of(GRAMMARS.strip() + "\n" + ROWS.strip())
# The same sums in one choice, as there would be twice as many ways to go on behind each bracket otherwise.
RULES.update(rules_of('E = SUM ["<" SUM  /  "=" SUM]'))


def words_in(text):
    """(word, place) for each word of a text."""
    return [(found.group(), found.start()) for found in re.finditer(r"[a-z0-9]+|[^ ]", text)]


def can_be(word, wanted):
    """Whether a word is what stands in a grammar."""
    if wanted == "NUMBER":
        return re.fullmatch(r"0|[1-9][0-9]{0,6}", word) is not None
    if wanted == "CELL":
        return re.fullmatch(r"c([0-9]|1[0-5])", word) is not None
    if wanted == "NAME":
        plain = re.fullmatch(r"[a-z][a-z0-9]{0,11}", word) and not re.fullmatch(r"c[0-9]+", word)
        return bool(plain) and word not in KEPT
    return word == wanted.strip('"')


def spread(stacks):
    """All ways to go on from these ones, each with a word on top, or with nothing left."""
    found, waiting = set(), list(stacks)
    while waiting:
        stack = waiting.pop()
        if stack and stack[0] in RULES:
            waiting += [tuple(choice) + stack[1:] for choice in RULES[stack[0]]]
        else:
            found.add(stack)
    return found


def first_wrong(start, text):
    """The place of the first word, or of the end, that cannot stand there by the grammar; None if there is none."""
    stacks = spread([(start,)])
    for word, place in words_in(text):
        stacks = spread([stack[1:] for stack in stacks if stack and can_be(word, stack[0])])
        if not stacks:
            return place
    return None if () in stacks else len(text)


def sort_of(word):
    """What a word can be in a grammar, if it is no kept word."""
    return [wanted for wanted in ("NUMBER", "CELL", "NAME") if can_be(word, wanted)]


def changed(draw, words):
    """The words with one of them left out, put in, doubled, exchanged or replaced, also by one of its own sort."""
    words = list(words)
    at = draw.randrange(len(words) + 1)
    what = draw.choice(["out", "in", "double", "exchange", "replace", "replace", "alike", "alike", "alike", "cut"])
    if what == "in" or at == len(words):
        words.insert(at, draw.choice(POOL))
    elif what == "out":
        del words[at]
    elif what == "double":
        words.insert(at, words[at])
    elif what == "exchange":
        other = draw.randrange(len(words))
        words[at], words[other] = words[other], words[at]
    elif what == "replace":
        words[at] = draw.choice(POOL)
    elif what == "alike":
        sort = [word for word in POOL + words if sort_of(word) == sort_of(words[at])]
        words[at] = draw.choice(sort)
    else:
        del words[at:]
    return words


def loose(draw, words):
    """A text of these words, with blanks in any number between them where there may be none."""
    text = " " * draw.choice([0, 0, 1, 3])
    for word in words:
        needed = text[-1:].isalnum() and word[:1].isalnum()
        text += " " * (draw.choice([1, 1, 2]) if needed else draw.choice([0, 0, 1, 2])) + word
    return text + " " * draw.choice([0, 0, 1, 2])


def tight(words):
    """The text of these words with the blanks that a printed text has."""
    return re.sub(r" (?=[;,:)])|(?<=\() ", "", " ".join(words))


def refusal(start, text, questions):
    """(error, place) of the first word that a reader refuses, by the grammar and by the questions; None if none is."""
    wrong = first_wrong(start, text)
    ahead = [(word, place) for word, place in words_in(text) if wrong is None or place < wrong]
    asked = next(questions(ahead), None)
    return asked if asked or wrong is None else (BadText, wrong)


def bad_signs(text):
    """Texts with a wrong sign, each with its index."""
    for sign in ["\n", "\t", "\x1f", "\x7f", "\u00e9", "\u2013", "\U0001f600", "\x00"]:
        for index in range(0, len(text) + 1, 1 if sign == "\n" else len(text) // 2):
            yield text[:index] + sign + text[index:], index


class Asked(Case):
    """What the tests of readers ask over and over."""

    def tells(self, wanted, read, text):
        """The reader tells what is wanted: a value, or (error, what)."""
        if wanted and isinstance(wanted[0], type):
            self.refuses(*wanted, read, text)
        else:
            self.same(read(text), wanted, text)

    def outcome(self, function, *arguments):
        """What a call returns, or (error, what)."""
        try:
            return function(*arguments)
        except Refused as refused:
            return type(refused), refused.what
