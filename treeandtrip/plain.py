"""The plain house: it serves a web by one of its trees, goes by its duties and never lacks a crate."""

from treeandtrip.basics import check_place, fresh, is_pair, is_place, is_within
from treeandtrip.days import amid_day, behind_day, checked_asks, checked_tells
from treeandtrip.errors import BadBook, Short, TooMany, Unlike
from treeandtrip.moments import checked_moment, fresh_moment
from treeandtrip.numbers import first_hands, reserve
from treeandtrip.runs import MOST_RUN_DAYS
from treeandtrip.trees import hung_from, made_tree
from treeandtrip.worlds import world_of


class Plain:
    """A plain house: its moment and the homes of the asks of its last days tell what it sends."""

    def __init__(self, web, terms, tree, root):
        self._world = world_of(web, terms)
        tree_legs = made_tree(web, tree)
        check_place(self._world.n, root, 0)
        self._reserve = reserve(web, terms, tree_legs)
        self._legs = hung_from(tree_legs, root)
        self._below = _places_below(self._world.n, self._legs)
        self._hands = first_hands(web, terms, tree_legs, root)
        self._moment = (self._hands, (), ())
        # How many days are over, and the homes, told or None, of the asks of each of the last days.
        self._over = 0
        self._homes = {}
        self._days = []

    def take(self, tells, asks):
        """Do a day with these tells and asks, and return the sends."""
        told = checked_tells(self._world, self._moment, tells)
        asked = checked_asks(self._world, asks)
        opening = amid_day(self._world, self._moment, told, asked)
        if self._days is not None and self._over == MOST_RUN_DAYS:
            raise TooMany(MOST_RUN_DAYS + 1)
        homes = _with_tells(self._homes, self._moment[2], told)
        homes[self._over] = tuple([None if back is None else back[1] for _, back in asked])
        sends = self._sends(asked, homes)
        _check_hands(opening[0], sends)
        self._moment = behind_day(self._world, opening, sends)
        self._over += 1
        self._homes = {day: homes[day] for day in homes if self._over - day <= self._reserve}
        if self._days is not None:
            self._days.append((told, asked, sends))
        return fresh(sends)

    def _sends(self, asked, homes):
        """The sends of the coming day: what is left of its down duties and up duties over each leg."""
        sends = []
        for x, (above, days) in self._legs.items():
            below = self._below[x]
            down = len([1 for place, _ in asked if place in below])
            # The coming day is the one on which the asks of just this day want the leg for their way up.
            wanting = homes.get(self._over + days - self._reserve, ())
            up = len([1 for home in wanting if home in below])
            if down > up:
                sends.append((above, x, down - up))
            elif up > down:
                sends.append((x, above, up - down))
        return tuple(sorted(sends))

    def moment(self):
        """The moment at which the house is."""
        return fresh_moment(self._moment)

    def run(self):
        """The run of all days that were done, None if the house was resumed."""
        return None if self._days is None else fresh((self._hands, tuple(self._days)))

    def owed(self):
        """The up duties that are still to come, (days, lower place, many), of the asks whose homes are told."""
        duties = []
        for x, (_, days) in self._legs.items():
            for day, homes in self._homes.items():
                to_come = day + self._reserve - days - self._over
                many = len([1 for home in homes if home in self._below[x]])
                if to_come >= 0 and many > 0:
                    duties.append((to_come, x, many))
        return tuple(sorted(duties))

    def book(self):
        """(age, home) of the asks of the last days, the oldest first."""
        return tuple([(self._over - day, home) for day, homes in self._homes.items() for home in homes])

    def _resume_at(self, moment, book):
        """Go on from this moment with this book, both of which are checked."""
        self._moment = checked_moment(self._world, moment)
        _check_book(self._world.n, self._reserve, book)
        ages = [self._world.longest - days for days, home in self._moment[2] if home is None]
        if [age for age, home in book if home is None] != ages:
            raise Unlike(0)
        for age, home in book:
            self._homes[-age] = self._homes.get(-age, ()) + (home,)
        self._days = None


def resumed(web, terms, tree, root, moment, book):
    """A plain house at any moment, with a book whose asks without a home are the untold loans of the moment."""
    house = Plain(web, terms, tree, root)
    house._resume_at(moment, book)
    return house


def _places_below(n, legs):
    """For each place but the root the places whose roads to the root begin there or come by, as keys."""
    below = {x: {} for x in legs}
    for place in range(n):
        at = place
        while at in legs:
            below[at][place] = True
            at = legs[at][0]
    return below


def _with_tells(homes, loans, tells):
    """The homes with those that are told; what has no home are the untold loans, in the same order."""
    found = {day: homes[day] for day in homes}
    if tells == ():
        return found
    told = dict(tells)
    untold = [(day, at) for day in homes for at, home in enumerate(homes[day]) if home is None]
    indexes = [index for index, (_, home) in enumerate(loans) if home is None]
    for index, (day, at) in zip(indexes, untold):
        if index in told:
            found[day] = found[day][:at] + (told[index],) + found[day][at + 1:]
    return found


def _check_hands(hands, sends):
    """Raise `Short` of the least place that would send more crates in all than it has at hand."""
    left = list(hands)
    for u, _, many in sends:
        left[u] -= many
    for place, many in enumerate(left):
        if many < 0:
            raise Short(place)


def _check_book(n, most_age, thing):
    if not isinstance(thing, tuple):
        raise BadBook(-1)
    most = most_age
    for index, item in enumerate(thing):
        if not is_pair(item) or not is_within(item[0], 1, most):
            raise BadBook(index)
        if item[1] is not None and not is_place(n, item[1]):
            raise BadBook(index)
        most = item[0]
