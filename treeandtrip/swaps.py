"""Several least trees of a web, and how one tree becomes another."""

from treeandtrip.basics import joined
from treeandtrip.errors import NotLeast, TooMany
from treeandtrip.trees import by_days, days_in_all, least_legs, made_tree, places_along
from treeandtrip.webs import made_web

MOST_FOR_ALL_TREES = 7


def least_trees(web):
    """The rising tuple of all least trees."""
    n, ways = made_web(web)
    if n > MOST_FOR_ALL_TREES:
        raise TooMany(n)
    forests = [((), list(range(n)))]
    for days in sorted(set([way[2] for way in ways])):
        forests = _grown(forests, [way for way in ways if way[2] == days])
    return tuple(sorted([tuple(sorted(legs)) for legs, _ in forests]))


def _grown(forests, ways):
    for way in ways:
        forests = forests + _with_way_taken(forests, way)
    # Within the ways up to some days a least tree joins whatever can be joined, so that
    # only the forests with the most legs can become least trees.
    most = max([len(legs) for legs, _ in forests])
    return [forest for forest in forests if len(forest[0]) == most]


def _with_way_taken(forests, way):
    """Those forests to which the way can be added, with it: their legs, and the labels of the places."""
    u, v, _ = way
    return [(legs + (way,), joined(labels, u, v)) for legs, labels in forests if labels[u] != labels[v]]


def exchanges(web, tree, other):
    """The tuple of `(out, in)` that leads from a tree to a least tree."""
    n, ways = made_web(web)
    legs = list(made_tree(web, tree))
    wanted = made_tree(web, other)
    if days_in_all(wanted) != days_in_all(least_legs(n, ways)):
        raise NotLeast(0)
    swaps = []
    for coming in sorted(wanted, key=by_days):
        if coming not in legs:
            going = _going(legs, wanted, coming)
            legs = [leg for leg in legs if leg != going] + [coming]
            swaps.append((going, coming))
    return tuple(swaps)


def _going(legs, wanted, coming):
    """The last way of the ring that the coming way closes which is not wanted."""
    ring = places_along(legs, coming[0], coming[1])
    pairs = [(min(u, v), max(u, v)) for u, v in zip(ring, ring[1:])]
    return max([leg for leg in legs if leg[:2] in pairs and leg not in wanted], key=by_days)
