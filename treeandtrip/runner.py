"""Runners: a house is executed day by day."""

from treeandtrip.acts import Amid, acts_of, do_all
from treeandtrip.basics import fresh
from treeandtrip.days import amid_day, behind_day, checked_asks, checked_tells
from treeandtrip.errors import TooMany
from treeandtrip.houses import CELLS, made_house
from treeandtrip.moments import checked_hands, fresh_moment
from treeandtrip.runs import MOST_RUN_DAYS
from treeandtrip.worlds import world_of


class Runner:
    """A house, with the moment at which it is, its cells and the days that it has done."""

    def __init__(self, web, terms, house, hands):
        self._world = world_of(web, terms)
        self._acts = acts_of(made_house(house))
        self._hands = checked_hands(self._world.n, hands)
        self._moment = (self._hands, (), ())
        self._held = [0] * CELLS
        self._days = []

    def take(self, tells, asks):
        """Do a day with these tells and asks, and return the sends of the house."""
        told = checked_tells(self._world, self._moment, tells)
        asked = checked_asks(self._world, asks)
        opening = amid_day(self._world, self._moment, told, asked)
        if len(self._days) == MOST_RUN_DAYS:
            raise TooMany(MOST_RUN_DAYS + 1)
        now = Amid(self._world, opening, (told, asked), len(self._days), self._held)
        do_all(self._acts, now)
        sends = now.sends()
        self._moment = behind_day(self._world, opening, sends)
        self._days.append((told, asked, sends))
        return fresh(sends)

    def moment(self):
        """The moment behind the last day."""
        return fresh_moment(self._moment)

    def cells(self):
        """What the cells hold."""
        return tuple(self._held)

    def run(self):
        """The run of all days so far."""
        return fresh((self._hands, tuple(self._days)))
