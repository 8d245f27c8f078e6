"""Houses, drawn or wrong, and houses that are executed by the words of [12.1], [12.2] and [13], for the tests."""

import random

from treeandtrip.errors import BadHouse, TooDeep, TooMany
from tests.day_samples import crates_amid, day_by_words, days_by
from tests.samples import deep

TWO_PARTS = ("bound", "+", "-", "*", "/", "min", "max", "<", "=")
ONE_PART = ("hand", "asked", "told")
NO_PARTS = ("day", "away")
STAY = ("set", 0, 0)


def drawn_expression(draw, most):
    """An expression that stands at most so many within one another."""
    kind = draw.randrange(5) if most > 1 else draw.randrange(3)
    if kind == 0:
        return draw.choice([0, 1, 7, 1000000])
    if kind == 1:
        return (draw.choice(NO_PARTS),)
    if kind == 2:
        return ("cell", draw.choice([0, 3, 15]))
    if kind == 3:
        return (draw.choice(ONE_PART), drawn_expression(draw, most - 1))
    return (draw.choice(TWO_PARTS), drawn_expression(draw, most - 1), drawn_expression(draw, most - 1))


def drawn_body(draw, bodies, times):
    """A body, within which so many bodies and so many `times` may still stand."""
    return tuple(drawn_statement(draw, bodies, times) for _ in range(draw.choice([0, 1, 1, 2, 3])))


def drawn_statement(draw, bodies, times):
    kind = draw.randrange(2 if bodies == 0 else 4 if times else 3)
    if kind == 0:
        return ("send",) + tuple(drawn_expression(draw, draw.choice([1, 2, 4])) for _ in range(3))
    if kind == 1:
        return ("set", draw.randrange(16), drawn_expression(draw, draw.choice([1, 8])))
    if kind == 2:
        first, second = drawn_body(draw, bodies - 1, times), drawn_body(draw, bodies - 1, times)
        return ("if", drawn_expression(draw, 3), first, second)
    return ("times", draw.randrange(16), draw.randint(1, 40), drawn_body(draw, bodies - 1, times - 1))


def drawn_house(seed):
    draw = random.Random(seed)
    return tuple(drawn_statement(draw, draw.choice([0, 1, 5]), 2) for _ in range(draw.randint(0, 5)))


def spots(thing, path=()):
    """The paths to all parts of nested tuples."""
    yield path
    if isinstance(thing, tuple):
        for index, item in enumerate(thing):
            yield from spots(item, path + (index,))


def put(thing, path, item):
    """The nested tuples with another part at the path."""
    if path == ():
        return item
    return thing[:path[0]] + (put(thing[path[0]], path[1:], item),) + thing[path[0] + 1:]


def nested(wrap, times, inside):
    """The thing with so many wraps around it."""
    for _ in range(times):
        inside = wrap(inside)
    return inside


def set_to(expression):
    return ("set", 3, expression)


def minus(times, inside=5):
    """An expression in which the inside stands behind so many others."""
    return nested(lambda part: ("-", 1, part), times, inside)


def within_ifs(times, body=(), second=False):
    """A house in which the body stands in so many others."""
    return nested(lambda inner: (("if", 1, (), inner) if second else ("if", 1, inner, ()),), times, body)


# Each row has what is no house, the class of its error and the error's `what`.
HOUSE_FAULTS = [(thing, BadHouse, -1) for thing in [None, True, 0, "-", [], [STAY], deep(lambda thing: [thing])]]
HOUSE_FAULTS += [
    ((None,), BadHouse, 0), ((STAY, ("set", 16, 0)), BadHouse, 1), ((STAY, ("set", True, 0)), BadHouse, 1),
    ((("times", 0, 41, ()),), BadHouse, 0), ((("if", 1, (), None),), BadHouse, 0), (("send", 0, 1, 1), BadHouse, 0),
    ((set_to(minus(8)), None), TooDeep, 0), (within_ifs(6), TooDeep, 5), ((STAY,) * 201, TooMany, 201),
]


def busy_expression(draw, n, most):
    """An expression whose value is often that of a place, or that of a few crates."""
    if most == 1 or draw.random() < 0.4:
        return draw.choice([draw.randrange(n), draw.randrange(n), draw.randrange(n + 2), ("cell", draw.randrange(3))])
    word = draw.choice(ONE_PART + NO_PARTS + TWO_PARTS)
    many = 0 if word in NO_PARTS else 1 if word in ONE_PART else 2
    return (word,) + tuple(busy_expression(draw, n, most - 1) for _ in range(many))


def busy_body(draw, web, bodies, times):
    return tuple(busy_statement(draw, web, bodies, times) for _ in range(draw.choice([0, 1, 2, 3])))


def busy_statement(draw, web, bodies, times):
    n, ways = web
    kind = draw.randrange(7 if bodies else 5)
    if kind == 0 and ways:
        return ("send",) + tuple(draw.sample(draw.choice(ways)[:2], 2)) + (busy_expression(draw, n, 3),)
    if kind < 3:
        return ("send",) + tuple(busy_expression(draw, n, most) for most in (2, 2, 3))
    if kind < 5:
        return ("set", draw.randrange(3), busy_expression(draw, n, 4))
    if kind == 5 or times == 0:
        first, second = busy_body(draw, web, bodies - 1, times), busy_body(draw, web, bodies - 1, times)
        return ("if", busy_expression(draw, n, 3), first, second)
    return ("times", draw.randrange(3), draw.randint(1, 4), busy_body(draw, web, bodies - 1, times - 1))


def busy_house(draw, web):
    """A house that sends much more often than other drawn ones."""
    return tuple(busy_statement(draw, web, 4, 2) for _ in range(draw.randint(1, 6)))


class ByWords:
    """A house that is executed by the words, with the crates one by one."""

    def __init__(self, web, terms, house, hands):
        self.web, self.terms, self.house = web, terms, house
        self.moment = (hands, (), ())
        self.cells = [0] * 16
        self.over = 0

    def take(self, tells, asks):
        """Do a day, which must not be refused."""
        self.crates = crates_amid(self.web, self.terms, self.moment, tells, asks)
        self.tells, self.asks, self.sent = tells, asks, []
        self.body(self.house)
        pairs = sorted(set(self.sent))
        sends = tuple(pair + (self.sent.count(pair),) for pair in pairs)
        self.moment = day_by_words(self.web, self.terms, self.moment, (tells, asks, sends))
        self.over += 1
        return sends

    def body(self, body):
        for word, *rest in body:
            if word == "send":
                self.send(*[self.value(part) for part in rest])
            elif word == "set":
                self.cells[rest[0]] = self.value(rest[1])
            elif word == "if":
                self.body(rest[1] if self.value(rest[0]) else rest[2])
            else:
                for turn in range(rest[1]):
                    self.cells[rest[0]] = turn
                    self.body(rest[2])

    def send(self, u, v, many):
        if (u, v) in days_by(self.web):
            for _ in range(min(many, self.crates.count(("hand", 0, u)))):
                self.crates.remove(("hand", 0, u))
                self.sent.append((u, v))

    def value(self, expression):
        return max(-10 ** 9, min(10 ** 9, self.uncut(expression)))

    def uncut(self, expression):
        if isinstance(expression, int):
            return expression
        word, parts = expression[0], expression[1:]
        if word == "cell":
            return self.cells[parts[0]]
        values = [self.value(part) for part in parts]
        if word in ("+", "-", "*", "/", "min", "max", "<", "="):
            return self.reckoned(word, *values)
        # A crate that is nowhere yet has no place, which is never equal to a value.
        return {
            "day": lambda: self.over,
            "away": lambda: len([1 for what, _, place in self.crates if what == "loan" and place is None]),
            "hand": lambda place: self.crates.count(("hand", 0, place)),
            "asked": lambda place: [ask[0] for ask in self.asks].count(place),
            "told": lambda place: ([home for _, home in self.tells] + [back[1] for _, back in self.asks if back]).count(
                place),
            "bound": lambda place, most: len(
                [1 for what, days, at in self.crates if what != "hand" and at == place and days <= most]),
        }[word](*values)

    def reckoned(self, word, e, f):
        return {
            "+": e + f, "-": e - f, "*": e * f, "/": e // f if f else 0, "min": min(e, f), "max": max(e, f),
            "<": int(e < f), "=": int(e == f)}[word]
