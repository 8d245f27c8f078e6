"""Houses: small programs that decide at the end of each day which crates are sent."""

from treeandtrip.basics import fresh, is_within
from treeandtrip.errors import BadHouse, Refused, TooDeep, TooMany

MOST_STATEMENTS = 200
MOST_EXPRESSIONS_DEEP = 8
MOST_BODIES_DEEP = 6
MOST_TIMES_DEEP = 2
MOST_TIMES = 40
MOST_WRITTEN = 1000000
CELLS = 16
LENGTHS = {"send": 4, "set": 3, "if": 4, "times": 4}
PARTS = {
    "day": 0, "away": 0, "hand": 1, "asked": 1, "told": 1, "bound": 2,
    "+": 2, "-": 2, "*": 2, "/": 2, "min": 2, "max": 2, "<": 2, "=": 2,
}


def made_house(thing):
    """The house, if the value is one."""
    if not isinstance(thing, tuple):
        raise BadHouse(-1)
    _check_statements(thing)
    return fresh(thing)


def is_house(thing):
    """Whether a value is a house."""
    try:
        made_house(thing)
    except Refused:
        return False
    return True


def _check_statements(house):
    # The statements that wait, the next one last, each with how many bodies and how many `times` it stands in.
    waiting = [(statement, 1, 0) for statement in reversed(house)]
    number = 0
    while waiting:
        statement, bodies_deep, times_deep = waiting.pop()
        if number == MOST_STATEMENTS:
            raise TooMany(number + 1)
        _check_form(number, statement)
        for expression in _expressions(statement):
            _check_expression(number, expression, 1)
        bodies = _bodies(statement)
        times_within = times_deep + 1 if statement[0] == "times" else times_deep
        _check_bodies(number, bodies, bodies_deep + 1, times_within)
        for body in reversed(bodies):
            for inner in reversed(body):
                waiting.append((inner, bodies_deep + 1, times_within))
        number += 1


def _check_form(number, thing):
    """Refuse what has no form of a statement; its expressions and its bodies are not looked at."""
    word = _word_of(number, thing)
    if len(thing) != LENGTHS.get(word):
        raise BadHouse(number)
    if word in ("set", "times") and not is_within(thing[1], 0, CELLS - 1):
        raise BadHouse(number)
    if word == "times" and not is_within(thing[2], 1, MOST_TIMES):
        raise BadHouse(number)


def _word_of(number, thing):
    """The text with which a tuple begins; anything else is refused."""
    if not isinstance(thing, tuple) or thing == () or not isinstance(thing[0], str):
        raise BadHouse(number)
    return thing[0]


def _expressions(statement):
    if statement[0] == "send":
        return statement[1:]
    if statement[0] == "set":
        return statement[2:]
    if statement[0] == "if":
        return statement[1:2]
    return ()


def _bodies(statement):
    if statement[0] == "if":
        return statement[2:]
    if statement[0] == "times":
        return statement[3:]
    return ()


def _check_expression(number, thing, deep):
    if deep > MOST_EXPRESSIONS_DEEP:
        raise TooDeep(number)
    if is_within(thing, 0, MOST_WRITTEN):
        return
    for part in _parts(number, thing):
        _check_expression(number, part, deep + 1)


def _parts(number, thing):
    """The expressions of which an expression that is no number is put together."""
    word = _word_of(number, thing)
    if word == "cell":
        if len(thing) != 2 or not is_within(thing[1], 0, CELLS - 1):
            raise BadHouse(number)
        return ()
    if len(thing) - 1 != PARTS.get(word):
        raise BadHouse(number)
    return thing[1:]


def _check_bodies(number, bodies, bodies_deep, times_deep):
    for body in bodies:
        if not isinstance(body, tuple):
            raise BadHouse(number)
    if times_deep > MOST_TIMES_DEEP or (bodies != () and bodies_deep > MOST_BODIES_DEEP):
        raise TooDeep(number)
