"""What several modules share: kinds of values, places and lots, and how places hang together."""

from treeandtrip.errors import BadLot, BadPlace, Parted

MOST_PLACES = 40
MOST_DAYS = 200
MOST_CRATES = 200000


def is_number(thing):
    """Whether a value is an int that is neither True nor False."""
    return isinstance(thing, int) and not isinstance(thing, bool)


def is_within(thing, least, most):
    """Whether a value is a number within these bounds, both included."""
    return is_number(thing) and least <= thing <= most


def is_numbers(thing, many):
    """Whether a value is a tuple of just so many numbers."""
    if not isinstance(thing, tuple) or len(thing) != many:
        return False
    # Each call looks at each way of a web, so that a call for each number would be felt here.
    for item in thing:
        if not isinstance(item, int) or isinstance(item, bool):
            return False
    return True


def fresh(thing):
    """The value, with each tuple in it made anew."""
    if not isinstance(thing, tuple):
        return thing
    return tuple([fresh(item) if isinstance(item, tuple) else item for item in thing])


def is_place(n, thing):
    """Whether a value is one of the places 0 to n - 1."""
    return is_within(thing, 0, n - 1)


def is_pair(thing):
    """Whether a value is a tuple of two items."""
    return isinstance(thing, tuple) and len(thing) == 2


def check_place(n, thing, what):
    """Raise `BadPlace` of this `what` unless the value is a place."""
    if not is_place(n, thing):
        raise BadPlace(what)


def checked_lot(n, thing):
    """The lot, if the value is one of a web with n places."""
    if not isinstance(thing, tuple) or thing == ():
        raise BadLot(-1)
    ahead = -1
    for index, place in enumerate(thing):
        if not is_place(n, place) or place <= ahead:
            raise BadLot(index)
        ahead = place
    return fresh(thing)


def joined(labels, u, v):
    """The labels of the places once u and v hang together, too: the lesser label of the two stays."""
    low = min(labels[u], labels[v])
    high = max(labels[u], labels[v])
    return [low if label == high else label for label in labels]


def labels_of(n, ways):
    """For each place the least place that hangs together with it by these ways."""
    labels = list(range(n))
    for u, v, _ in ways:
        if labels[u] != labels[v]:
            labels = joined(labels, u, v)
    return labels


def check_together(n, ways):
    """Raise `Parted` of the least place that does not hang together with place 0."""
    for place, label in enumerate(labels_of(n, ways)):
        if label != 0:
            raise Parted(place)


def neighbours(ways, place):
    """The rising list of `(neighbour, days)` for all of the ways at a place."""
    upward = [(v, d) for u, v, d in ways if u == place]
    downward = [(u, d) for u, v, d in ways if v == place]
    return sorted(upward + downward)


def ways_across(n, ways, lot):
    """The ways with just one end in the lot, in the order in which they stand."""
    inside = [place in lot for place in range(n)]
    return [way for way in ways if inside[way[0]] != inside[way[1]]]
