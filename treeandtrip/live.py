"""Live runs: days that can be undone and done again."""

from treeandtrip.basics import fresh
from treeandtrip.days import day_done
from treeandtrip.errors import NothingAgain, NothingBack, TooMany
from treeandtrip.lost import paper_of, rows_of
from treeandtrip.moments import checked_hands, fresh_moment
from treeandtrip.runs import MOST_RUN_DAYS
from treeandtrip.worlds import world_of


class Live:
    """A run that is made day by day, with the days that were undone last."""

    def __init__(self, web, terms, hands):
        self._world = world_of(web, terms)
        self._rows = rows_of(self._world)
        # The moments ahead of the first day and behind each day, also behind those that were undone.
        self._moments = [(checked_hands(self._world.n, hands), (), ())]
        self._days = []
        self._standing = 0

    def take(self, day):
        """Do a day, and return the moment behind it; the days that were undone are forgotten."""
        moment = day_done(self._world, self._moments[self._standing], day)
        if self._standing == MOST_RUN_DAYS:
            raise TooMany(MOST_RUN_DAYS + 1)
        self._days = self._days[:self._standing] + [fresh(day)]
        self._moments = self._moments[:self._standing + 1] + [moment]
        self._standing += 1
        return self.moment()

    def back(self):
        """Undo the last day that stands, and return the moment ahead of it."""
        if self._standing == 0:
            raise NothingBack(0)
        self._standing -= 1
        return self.moment()

    def again(self):
        """Do the day again that was undone last, and return the moment behind it."""
        if self._standing == len(self._days):
            raise NothingAgain(0)
        self._standing += 1
        return self.moment()

    def moment(self):
        """The moment at which the run stands."""
        return fresh_moment(self._moments[self._standing])

    def run(self):
        """The run of the days that stand."""
        return fresh((self._moments[0][0], tuple(self._days[:self._standing])))

    def paper(self):
        """The lost paper of the moment at which the run stands, or None."""
        return fresh(paper_of(self._world, self._rows, self._moments[self._standing]))
