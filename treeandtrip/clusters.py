"""Clusters: lots of places that are nearer to one another than to all others."""

from treeandtrip.basics import MOST_DAYS, checked_lot, is_within, labels_of, ways_across
from treeandtrip.errors import BadMany, NotCluster, Refused
from treeandtrip.trees import days_in_all, least_legs
from treeandtrip.webs import made_web


def made_lot(web, thing):
    """The lot, if the value is one of this web."""
    n, _ = made_web(web)
    return checked_lot(n, thing)


def _lots_within(n, ways, most):
    """The lots that hang together by the ways of at most so many days, by their least places."""
    labels = labels_of(n, [way for way in ways if way[2] <= most])
    lots = {}
    for place, label in enumerate(labels):
        lots.setdefault(label, []).append(place)
    return [tuple(lot) for lot in lots.values()]


def parts(web, most):
    """The rising tuple of the lots that hang together by the ways of at most so many days."""
    n, ways = made_web(web)
    if not is_within(most, 0, MOST_DAYS):
        raise BadMany(0)
    return tuple(_lots_within(n, ways, most))


def _all_joined_at(n, ways):
    """A dict of all clusters with the least days at which each is one of the parts."""
    found = {}
    for most in [0] + sorted(set([way[2] for way in ways])):
        for lot in _lots_within(n, ways, most):
            found.setdefault(lot, most)
    return found


def _in_order(lots):
    return sorted(lots, key=lambda lot: (len(lot), lot))


def clusters(web):
    """The tuple of all clusters, in the order of lots."""
    n, ways = made_web(web)
    return tuple(_in_order(list(_all_joined_at(n, ways))))


def is_cluster(web, thing):
    """Whether a value is a cluster of this web."""
    try:
        joined_at(web, thing)
    except Refused:
        return False
    return True


def joined_at(web, lot):
    """The least days for which the cluster is one of the parts."""
    n, ways = made_web(web)
    days = _all_joined_at(n, ways).get(checked_lot(n, lot))
    if days is None:
        raise NotCluster(0)
    return days


def _opening(n, ways, lot):
    return min([way[2] for way in ways_across(n, ways, lot)], default=None)


def opens_at(web, lot):
    """The least days of a way out of the cluster, None for all places."""
    joined_at(web, lot)
    n, ways = made_web(web)
    return _opening(n, ways, lot)


def children(web, lot):
    """The clusters of which the cluster is put together, () for a single place."""
    days = joined_at(web, lot)
    if len(lot) == 1:
        return ()
    n, ways = made_web(web)
    return tuple([part for part in _lots_within(n, ways, days - 1) if part[0] in lot])


def inner(web, lot):
    """The length of a least tree of the cluster's places, by the ways between them."""
    joined_at(web, lot)
    n, ways = made_web(web)
    return days_in_all(least_legs(n, [way for way in ways if way[0] in lot and way[1] in lot]))


def moats(web):
    """The tuple of `(lot, days)` for each cluster but all places: how long it stands by itself."""
    n, ways = made_web(web)
    found = _all_joined_at(n, ways)
    lots = _in_order([lot for lot in found if len(lot) < n])
    return tuple([(lot, _opening(n, ways, lot) - found[lot]) for lot in lots])
