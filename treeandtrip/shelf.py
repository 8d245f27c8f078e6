"""What a desk keeps from row to row."""

from treeandtrip.errors import Full

MOST_HOUSES = 20


class Shelf:
    """A web with the names of its places, terms, houses by their names, and a run; at the beginning nothing."""

    def __init__(self):
        self.web = None
        self.names = ()
        self.terms = None
        self.houses = {}
        self.going = None

    def lay_web(self, names, web):
        """From now on there is this web with these names, and nothing else."""
        self.web = web
        self.names = names
        self.terms = None
        self.houses = {}
        self.going = None

    def lay_terms(self, terms):
        """From now on there are these terms, and no run."""
        self.terms = terms
        self.going = None

    def lay_house(self, name, house):
        """From now on there is this house, in the place of one of the same name."""
        if len(self.houses) == MOST_HOUSES and name not in self.houses:
            raise Full(MOST_HOUSES)
        self.houses[name] = house

    def lay_run(self, run):
        """From now on there is this run, in the place of the one that was there."""
        self.going = run
