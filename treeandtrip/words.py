"""The signs and words of texts: how texts are taken apart into words, and how words are laid out as a text."""

from treeandtrip.errors import BadNames, BadText, Long, NoName

MOST_SIGNS = 60000
MOST_FIGURES = 7
MOST_NAME_SIGNS = 12
MOST_CELL = 15
FIGURES = "0123456789"
LETTERS = "abcdefghijklmnopqrstuvwxyz"
KEPT = (
    "places", "loans", "trips", "a", "day", "days", "ahead", "hands", "tell", "ask", "home", "in", "send", "to", "set",
    "if", "else", "times", "hand", "asked", "told", "away", "bound", "min", "max")


def check_signs(thing):
    """Raise `BadText` unless the value is a text, not too long, of the signs that may stand in one."""
    if not isinstance(thing, str):
        raise BadText(-1)
    for index, sign in enumerate(thing):
        if index == MOST_SIGNS or not " " <= sign <= "~":
            raise BadText(index)


def _is_run_sign(sign):
    return sign in LETTERS or sign in FIGURES


def _are_figures(word):
    return word != "" and all([sign in FIGURES for sign in word])


def is_number_word(word):
    """Whether a word is a number."""
    return len(word) <= MOST_FIGURES and _are_figures(word) and (word == "0" or word[0] != "0")


def is_cell_word(word):
    """Whether a word is a cell."""
    return word[:1] == "c" and is_number_word(word[1:]) and int(word[1:]) <= MOST_CELL


def is_name(word):
    """Whether a text is a name."""
    if not 1 <= len(word) <= MOST_NAME_SIGNS or word[0] not in LETTERS or word in KEPT:
        return False
    if not all([_is_run_sign(sign) for sign in word]):
        return False
    return word[0] != "c" or not _are_figures(word[1:])


def checked_names(n, thing):
    """The names, if the value is names of the places of a web with n of them."""
    if not isinstance(thing, tuple) or len(thing) != n:
        raise BadNames(-1)
    for index, name in enumerate(thing):
        if not isinstance(name, str) or not is_name(name) or name in thing[:index]:
            raise BadNames(index)
    return tuple(list(thing))


class Words:
    """The words of a text, which are taken one by one from the left; what cannot stand there is refused."""

    def __init__(self, text):
        check_signs(text)
        self._words = _words_of(text)
        self._end = len(text)
        self._at = 0
        # Where the word that was taken last begins: the place of the questions that belong to it.
        self.last = 0

    def next_word(self):
        """The word that comes next; `""`, which is no word, at the end of the text."""
        return self._words[self._at][0] if self._at < len(self._words) else ""

    def next_place(self):
        """The place of the word that comes next, or of the end."""
        return self._words[self._at][1] if self._at < len(self._words) else self._end

    def step(self):
        """Take the word that comes next, which must not be the end, and return it."""
        self.last = self.next_place()
        self._at += 1
        return self._words[self._at - 1][0]

    def takes(self, word):
        """Take this word if it comes next; whether it did."""
        if self.next_word() != word:
            return False
        self.step()
        return True

    def want(self, word):
        """Take this word."""
        if not self.takes(word):
            raise BadText(self.next_place())

    def want_one(self, choices):
        """Take one of these words, and return it."""
        if self.next_word() not in choices:
            raise BadText(self.next_place())
        return self.step()

    def number(self):
        """Take a number, and return it."""
        if not is_number_word(self.next_word()):
            raise BadText(self.next_place())
        return int(self.step())

    def numbers(self):
        """Take as many numbers as come, at least one, and return them as a tuple."""
        found = [self.number()]
        while is_number_word(self.next_word()):
            found.append(self.number())
        return tuple(found)

    def cell(self):
        """Take a cell, and return its number."""
        if not is_cell_word(self.next_word()):
            raise BadText(self.next_place())
        return int(self.step()[1:])

    def name(self):
        """Take a name, and return it."""
        if not is_name(self.next_word()):
            raise BadText(self.next_place())
        return self.step()

    def spot(self, names):
        """Take the name of a place, and return the place."""
        name = self.name()
        if name not in names:
            raise NoName(self.last)
        return names.index(name)

    def finish(self):
        """Refuse whatever comes behind the words that were taken."""
        if self._at < len(self._words):
            raise BadText(self.next_place())


def _words_of(text):
    """The list of `(word, place)` of a text of good signs."""
    found = []
    at = 0
    while at < len(text):
        begun = at
        at += 1
        if _is_run_sign(text[begun]):
            while at < len(text) and _is_run_sign(text[at]):
                at += 1
        if text[begun] != " ":
            found.append((text[begun:at], begun))
    return found


def laid_out(words):
    """The text that these words make, with the blanks that a printed text has."""
    parts = []
    # What stands at the beginning is as if behind a bracket: no blank goes ahead of it.
    ahead = "("
    for word in words:
        if ahead != "(" and word not in (";", ",", ":", ")"):
            parts.append(" ")
        parts.append(word)
        ahead = word
    return "".join(parts)


def check_length(signs):
    """Raise `Long` of a text that would have so many signs."""
    if signs > MOST_SIGNS:
        raise Long(0)


def between(sign, rows):
    """The words of these rows of words, with the sign between each two rows."""
    words = []
    for row in rows:
        if words != []:
            words.append(sign)
        words.extend(row)
    return words
