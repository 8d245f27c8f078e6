"""All errors of the package: each keeps in `what` the one value that it is given."""


class Refused(ValueError):
    """The base class of all other errors."""

    def __init__(self, what):
        self.what = what


class BadWeb(Refused):
    """The argument is not a web; what: -1, or the index of the wrong part."""


class BadWay(Refused):
    """A way of the web is wrong; what: its index."""


class Parted(Refused):
    """The places do not hang together; what: the least place that does not hang together with place 0."""


class BadDays(Refused):
    """The number of days is not within its bounds; what: 0, or the place."""


class NoWay(Refused):
    """There is no such way; what: 0."""


class BadRow(Refused):
    """The argument is not a row of ways; what: 0."""


class TooMany(Refused):
    """There are more things than allowed; what: as the function tells."""


class LastPlace(Refused):
    """The only place cannot be taken away; what: 0."""


class BadOrder(Refused):
    """The argument is not an order of the places; what: 0."""


class BadPlace(Refused):
    """There is no such place; what: 0, or 1 for the second one."""


class BadMany(Refused):
    """The number is not within its bounds; what: 0, or the place."""


class BadTree(Refused):
    """The argument is not a tree of the web; what: -1, or the first wrong index."""


class NotLeast(Refused):
    """The tree is not a least one; what: 0."""


class BadLot(Refused):
    """The argument is not a lot of places; what: -1, or the first wrong index."""


class NotCluster(Refused):
    """The lot is not a cluster; what: 0."""


class BadTerms(Refused):
    """The argument is not terms; what: -1, or the index of the wrong part."""


class BadOffers(Refused):
    """The argument is not a tuple of offers; what: -1, or the first wrong index."""


class BadHands(Refused):
    """The argument is not hands; what: -1, or the first wrong index."""


class BadMoment(Refused):
    """The argument is not a moment; what: -1, or the index of the wrong part."""


class BadTells(Refused):
    """The argument is not a tuple of tells; what: -1, or the first wrong index."""


class BadAsks(Refused):
    """The argument is not a tuple of asks; what: -1, or the first wrong index."""


class Untold(Refused):
    """The home of a loan must be told; what: the index of the loan."""


class Lacks(Refused):
    """There is no crate for an ask; what: the index of the ask."""


class BadDay(Refused):
    """The argument is not a day; what: -1."""


class BadSends(Refused):
    """The argument is not a tuple of sends; what: -1, or the first wrong index."""


class TooFew(Refused):
    """There are too few crates for a send; what: the index of the send."""


class BadRun(Refused):
    """The argument is not a run; what: -1, or the index of the wrong day."""


class BadHouse(Refused):
    """The argument is not a house; what: -1, or the number of the statement."""


class TooDeep(Refused):
    """Too many things stand within one another; what: as the function tells."""


class Short(Refused):
    """A plain house has too few crates for its sends; what: the place."""


class BadBook(Refused):
    """The argument is not a book of asks; what: -1, or the first wrong index."""


class Unlike(Refused):
    """The book does not fit the moment; what: 0."""


class NothingBack(Refused):
    """There is nothing to undo; what: 0."""


class NothingAgain(Refused):
    """There is nothing to do again; what: 0."""


class BadText(Refused):
    """The text is wrong; what: -1, or the place."""


class NoName(Refused):
    """There is no such name; what: the place."""


class Twice(Refused):
    """The same stands twice; what: the place."""


class NotTwo(Refused):
    """A way joins a place with itself; what: the place."""


class BadNames(Refused):
    """The argument is not names; what: -1, or the first wrong index."""


class Long(Refused):
    """The text would be too long; what: 0."""


class Full(Refused):
    """There is no room for one more; what: how many are there."""


class NoWeb(Refused):
    """There is no web yet; what: 0."""


class NoTerms(Refused):
    """There are no terms yet; what: 0."""


class NoHouse(Refused):
    """There is no such house; what: the place."""


class NoRun(Refused):
    """There is no run, or not one of the kind that is wanted; what: 0."""
