"""The texts of houses."""

from treeandtrip.housewords import HouseReader
from treeandtrip.houses import made_house
from treeandtrip.webs import made_web
from treeandtrip.words import Words, between, check_length, checked_names, laid_out

# How tightly signs bind; what is not here is an atom.
RANKS = {"<": 0, "=": 0, "+": 1, "-": 1, "*": 2, "/": 2}
ATOM = 3


def read_house(web, names, text):
    """The house that a text tells."""
    n, _ = made_web(web)
    good = checked_names(n, names)
    return house_from(Words(text), good)


def house_from(words, names):
    """The house that the words up to the end of a text tell."""
    reader = HouseReader(words, names)
    body = reader.body()
    words.finish()
    return made_house(body)


def print_house(web, names, house):
    """The text of a house."""
    n, _ = made_web(web)
    good = checked_names(n, names)
    text = laid_out(_body_in_words(good, made_house(house)))
    check_length(len(text))
    return text


def _body_in_words(names, body):
    if body == ():
        return ["-"]
    return between(";", [_statement_in_words(names, statement) for statement in body])


def _statement_in_words(names, statement):
    word = statement[0]
    if word == "send":
        _, first, second, many = statement
        ends = _spot_in_words(names, first, 0) + ["to"] + _spot_in_words(names, second, 0)
        return ["send"] + ends + [":"] + _in_words(names, many, 0)
    if word == "set":
        return ["set", f"c{statement[1]}", ":"] + _in_words(names, statement[2], 0)
    if word == "if":
        _, value, first, second = statement
        bodies = _in_braces(names, first) + ["else"] + _in_braces(names, second)
        return ["if"] + _in_words(names, value, 0) + bodies
    _, cell, many, body = statement
    return ["times", f"c{cell}", str(many)] + _in_braces(names, body)


def _in_braces(names, body):
    return ["{"] + _body_in_words(names, body) + ["}"]


def _spot_in_words(names, expression, least_rank):
    """The words of an expression where a place stands by its name."""
    if isinstance(expression, int) and expression < len(names):
        return [names[expression]]
    return _in_words(names, expression, least_rank)


def _in_words(names, expression, least_rank):
    """The words of an expression, in brackets if it binds less tightly than it must."""
    if isinstance(expression, int):
        return [str(expression)]
    word, parts = expression[0], expression[1:]
    if word not in RANKS:
        return _atom_in_words(names, word, parts)
    rank = RANKS[word]
    # Signs of one rank go from the left, but of `<` and `=` only one can stand without brackets.
    left = _in_words(names, parts[0], max(rank, 1))
    words = left + [word] + _in_words(names, parts[1], rank + 1)
    return ["("] + words + [")"] if rank < least_rank else words


def _atom_in_words(names, word, parts):
    if word == "cell":
        return [f"c{parts[0]}"]
    if word in ("day", "away"):
        return [word]
    if word in ("min", "max"):
        return [word, "("] + _in_words(names, parts[0], 0) + [","] + _in_words(names, parts[1], 0) + [")"]
    words = [word] + _spot_in_words(names, parts[0], ATOM)
    return words + ["in"] + _in_words(names, parts[1], ATOM) if word == "bound" else words
