"""Clusters: lots of places that are nearer to one another than to all others."""

from treeandtrip.basics import MOST_DAYS, checked_lot, is_within, labels_of, ways_across
from treeandtrip.errors import BadMany, NotCluster, Refused
from treeandtrip.trees import days_in_all, days_of_longest, least_legs
from treeandtrip.webs import made_web


def made_lot(web, thing):
    """The lot, if the value is one of this web."""
    n, _ = made_web(web)
    return checked_lot(n, thing)


def _lots_within(n, ways, most):
    """The lots that hang together by the ways of at most so many days, by their least places."""
    labels = labels_of(n, [way for way in ways if way[2] <= most])
    lots = {}
    for place, label in enumerate(labels):
        lots.setdefault(label, []).append(place)
    return [tuple(lot) for lot in lots.values()]


def parts(web, most):
    """The rising tuple of the lots that hang together by the ways of at most so many days."""
    n, ways = made_web(web)
    if not is_within(most, 0, MOST_DAYS):
        raise BadMany(0)
    return tuple(_lots_within(n, ways, most))


def _inside_and_opening(n, legs, lot):
    """The legs of a least tree that lie within the lot, and the least days of those that lead out of it."""
    inside = [place in lot for place in range(n)]
    within = [leg for leg in legs if inside[leg[0]] and inside[leg[1]]]
    opening = min([leg[2] for leg in ways_across(n, legs, lot)], default=None)
    return within, opening


def _in_order(lots):
    return sorted(lots, key=lambda lot: (len(lot), lot))


def cluster_rows(n, ways):
    """The list of `(lot, joined_at, opens_at, inner)` for all clusters, in the order of lots."""
    # The legs of a least tree join the same places within any number of days as all ways do,
    # and the quickest way out of any lot is as quick as a leg: so the few legs are enough.
    legs = least_legs(n, ways)
    found = {}
    for most in [0] + sorted(set([leg[2] for leg in legs])):
        for lot in _lots_within(n, legs, most):
            found.setdefault(lot, most)
    rows = []
    for lot in _in_order(list(found)):
        within, opening = _inside_and_opening(n, legs, lot)
        rows.append((lot, found[lot], opening, days_in_all(within)))
    return rows


def legs_and_opening(n, ways, lot):
    """The legs of a least tree within the cluster, and the days at which it opens, None for all places."""
    within, opening = _inside_and_opening(n, least_legs(n, ways), lot)
    if len(within) < len(lot) - 1:
        raise NotCluster(0)
    if opening is not None and opening <= days_of_longest(within):
        raise NotCluster(0)
    return within, opening


def clusters(web):
    """The tuple of all clusters, in the order of lots."""
    n, ways = made_web(web)
    return tuple([row[0] for row in cluster_rows(n, ways)])


def is_cluster(web, thing):
    """Whether a value is a cluster of this web."""
    try:
        joined_at(web, thing)
    except Refused:
        return False
    return True


def _of_cluster(web, lot):
    n, ways = made_web(web)
    return legs_and_opening(n, ways, checked_lot(n, lot))


def joined_at(web, lot):
    """The least days for which the cluster is one of the parts."""
    return days_of_longest(_of_cluster(web, lot)[0])


def opens_at(web, lot):
    """The least days of a way out of the cluster, None for all places."""
    return _of_cluster(web, lot)[1]


def children(web, lot):
    """The clusters of which the cluster is put together, () for a single place."""
    legs = _of_cluster(web, lot)[0]
    if not legs:
        return ()
    quicker = _lots_within(web[0], legs, days_of_longest(legs) - 1)
    return tuple([part for part in quicker if part[0] in lot])


def inner(web, lot):
    """The length of a least tree of the cluster's places, by the ways between them."""
    return days_in_all(_of_cluster(web, lot)[0])


def moats(web):
    """The tuple of `(lot, days)` for each cluster but all places: how long it stands by itself."""
    n, ways = made_web(web)
    return tuple([(lot, opening - days) for lot, days, opening, _ in cluster_rows(n, ways) if opening is not None])
