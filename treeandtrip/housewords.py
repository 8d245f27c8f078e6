"""The words of houses: the body that words tell."""

from treeandtrip.errors import BadMany, TooDeep, TooMany
from treeandtrip.houses import MOST_BODIES_DEEP, MOST_STATEMENTS, MOST_TIMES, MOST_TIMES_DEEP, MOST_WRITTEN
from treeandtrip.words import is_cell_word, is_name, is_number_word

MOST_BRACKETS_DEEP = 20


class HouseReader:
    """Reads one house from words; it counts the statements, and what stands within what."""

    def __init__(self, words, names):
        self._words = words
        self._names = names
        self._statements = 0
        self._bodies_deep = 0
        self._times_deep = 0
        # How many brackets and `hand`, `asked`, `told` and `bound` the next word stands within.
        self._deep = 0

    def body(self):
        """The body that the next words tell."""
        self._bodies_deep += 1
        statements = []
        if not self._words.takes("-"):
            statements.append(self._statement())
            while self._words.takes(";"):
                statements.append(self._statement())
        self._bodies_deep -= 1
        return tuple(statements)

    def _statement(self):
        word = self._words.want_one(("send", "set", "if", "times"))
        if self._statements == MOST_STATEMENTS:
            raise TooMany(self._words.last)
        self._statements += 1
        if word == "send":
            return self._send()
        if word == "set":
            return self._set()
        if word == "if":
            return self._if()
        return self._times()

    def _send(self):
        first = self._expression()
        self._words.want("to")
        second = self._expression()
        self._words.want(":")
        return "send", first, second, self._expression()

    def _set(self):
        cell = self._words.cell()
        self._words.want(":")
        return "set", cell, self._expression()

    def _if(self):
        value = self._expression()
        first = self._body_in_brackets()
        self._words.want("else")
        return "if", value, first, self._body_in_brackets()

    def _times(self):
        if self._times_deep == MOST_TIMES_DEEP:
            raise TooDeep(self._words.last)
        cell = self._words.cell()
        many = self._words.number()
        if not 1 <= many <= MOST_TIMES:
            raise BadMany(self._words.last)
        self._times_deep += 1
        body = self._body_in_brackets()
        self._times_deep -= 1
        return "times", cell, many, body

    def _body_in_brackets(self):
        self._words.want("{")
        if self._bodies_deep == MOST_BODIES_DEEP:
            raise TooDeep(self._words.last)
        body = self.body()
        self._words.want("}")
        return body

    def _expression(self):
        value = self._sum()
        if self._words.next_word() in ("<", "="):
            sign = self._words.step()
            value = (sign, value, self._sum())
        return value

    def _sum(self):
        value = self._product()
        while self._words.next_word() in ("+", "-"):
            sign = self._words.step()
            value = (sign, value, self._product())
        return value

    def _product(self):
        value = self._atom()
        while self._words.next_word() in ("*", "/"):
            sign = self._words.step()
            value = (sign, value, self._atom())
        return value

    def _atom(self):
        word = self._words.next_word()
        if is_number_word(word):
            return self._number()
        if is_name(word):
            return self._words.spot(self._names)
        if is_cell_word(word):
            return "cell", self._words.cell()
        word = self._words.want_one(("day", "away", "hand", "asked", "told", "bound", "min", "max", "("))
        if word in ("day", "away"):
            return (word,)
        if word in ("min", "max"):
            return self._two_in_brackets(word)
        self._go_deeper()
        if word == "(":
            value = self._expression()
            self._words.want(")")
        elif word == "bound":
            place = self._atom()
            self._words.want("in")
            value = (word, place, self._atom())
        else:
            value = (word, self._atom())
        self._deep -= 1
        return value

    def _number(self):
        number = self._words.number()
        if number > MOST_WRITTEN:
            raise BadMany(self._words.last)
        return number

    def _two_in_brackets(self, word):
        self._words.want("(")
        self._go_deeper()
        first = self._expression()
        self._words.want(",")
        second = self._expression()
        self._words.want(")")
        self._deep -= 1
        return word, first, second

    def _go_deeper(self):
        """Count what was taken last among what the next words stand within."""
        if self._deep == MOST_BRACKETS_DEEP:
            raise TooDeep(self._words.last)
        self._deep += 1
