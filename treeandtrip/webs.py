"""Webs: places that are joined by ways of whole days, and what may be changed of them."""

from treeandtrip.basics import MOST_DAYS, MOST_PLACES, check_place, check_together
from treeandtrip.basics import is_numbers, is_place, is_within, neighbours
from treeandtrip.errors import BadDays, BadOrder, BadPlace, BadRow, BadWay, BadWeb
from treeandtrip.errors import LastPlace, NoWay, Refused, TooMany


def made_web(thing):
    """The web, if the value is one."""
    if not isinstance(thing, tuple) or len(thing) != 2:
        raise BadWeb(-1)
    n, ways = thing
    if not is_within(n, 1, MOST_PLACES):
        raise BadWeb(0)
    if not isinstance(ways, tuple):
        raise BadWeb(1)
    _check_ways(n, ways)
    check_together(n, ways)
    return n, tuple([(u, v, d) for u, v, d in ways])


def _check_ways(n, ways):
    # Of two ways between the same places the tuples rise only in their days, so it is
    # the pairs of places that must rise.
    ahead = (-1, -1)
    for index, way in enumerate(ways):
        if not is_numbers(way, 3):
            raise BadWay(index)
        u, v, d = way
        if not 0 <= u < v < n or not 1 <= d <= MOST_DAYS or (u, v) <= ahead:
            raise BadWay(index)
        ahead = (u, v)


def is_web(thing):
    """Whether a value is a web."""
    try:
        made_web(thing)
    except Refused:
        return False
    return True


def near(web, place):
    """The rising tuple of `(neighbour, days)` for all ways at this place."""
    n, ways = made_web(web)
    check_place(n, place, 0)
    return tuple(neighbours(ways, place))


def days_between(web, u, v):
    """The days of the way between two places, or None if there is no way."""
    n, ways = made_web(web)
    check_place(n, u, 0)
    check_place(n, v, 1)
    for way in ways:
        if way[:2] == _pair(u, v):
            return way[2]
    return None


def _pair(u, v):
    return min(u, v), max(u, v)


def _ways_but(ways, pair):
    return [way for way in ways if way[:2] != pair]


def with_way(web, u, v, d):
    """The web with a way of d days between u and v."""
    n, ways = made_web(web)
    check_place(n, u, 0)
    check_place(n, v, 1)
    if u == v:
        raise BadPlace(1)
    if not is_within(d, 1, MOST_DAYS):
        raise BadDays(0)
    pair = _pair(u, v)
    return n, tuple(sorted(_ways_but(ways, pair) + [pair + (d,)]))


def without_way(web, u, v):
    """The web without the way between u and v."""
    if days_between(web, u, v) is None:
        raise NoWay(0)
    n, ways = made_web(web)
    kept = _ways_but(ways, _pair(u, v))
    check_together(n, kept)
    return n, tuple(kept)


def with_place(web, row):
    """The web with one more place, which the row joins to the others."""
    n, ways = made_web(web)
    _check_row(n, row)
    if n == MOST_PLACES:
        raise TooMany(n + 1)
    return n + 1, tuple(sorted(list(ways) + [(place, n, days) for place, days in row]))


def _check_row(n, row):
    if not isinstance(row, tuple) or row == ():
        raise BadRow(0)
    ahead = -1
    for item in row:
        if not is_numbers(item, 2) or not is_place(n, item[0]) or not is_within(item[1], 1, MOST_DAYS):
            raise BadRow(0)
        if item[0] <= ahead:
            raise BadRow(0)
        ahead = item[0]


def without_place(web, place):
    """The web without a place and its ways; the places above it fall by one."""
    n, ways = made_web(web)
    check_place(n, place, 0)
    if n == 1:
        raise LastPlace(0)
    kept = [(_fallen(u, place), _fallen(v, place), d) for u, v, d in ways if place not in (u, v)]
    check_together(n - 1, kept)
    return n - 1, tuple(kept)


def _fallen(place, gone):
    return place - 1 if place > gone else place


def renamed(web, order):
    """The web in which each place p is called `order[p]`."""
    n, ways = made_web(web)
    if not is_numbers(order, n) or sorted(order) != list(range(n)):
        raise BadOrder(0)
    return n, tuple(sorted([_pair(order[u], order[v]) + (d,) for u, v, d in ways]))
