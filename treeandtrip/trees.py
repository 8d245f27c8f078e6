"""Trees of a web: their lengths and roads, the least tree, and cuts."""

from treeandtrip.basics import check_place, check_together, checked_lot, fresh, is_numbers, is_within
from treeandtrip.basics import joined, labels_of, neighbours, ways_across
from treeandtrip.errors import BadMany, BadTree, Refused
from treeandtrip.webs import days_between, made_web


def made_tree(web, thing):
    """The tree, if the value is one of this web."""
    n, ways = made_web(web)
    if not isinstance(thing, tuple) or len(thing) != n - 1:
        raise BadTree(-1)
    ahead = ()
    for index, leg in enumerate(thing):
        # A leg with True for 1 would be found among the ways, so the kinds are asked first.
        if not is_numbers(leg, 3) or leg not in ways or leg <= ahead:
            raise BadTree(index)
        ahead = leg
    check_together(n, thing)
    return fresh(thing)


def is_tree(web, thing):
    """Whether a value is a tree of this web."""
    try:
        made_tree(web, thing)
    except Refused:
        return False
    return True


def days_in_all(legs):
    """The sum of the days of these ways."""
    return sum([leg[2] for leg in legs])


def days_of_longest(legs):
    """The days of the longest of these ways, 0 if there is none."""
    return max([leg[2] for leg in legs], default=0)


def tree_length(web, tree):
    """The sum of the days of all legs."""
    return days_in_all(made_tree(web, tree))


def tree_longest(web, tree):
    """The days of the longest leg, 0 if there is none."""
    return days_of_longest(made_tree(web, tree))


def hung_from(legs, root):
    """For each place but the root `(above, days)`: its next place towards the root, and how far that is."""
    above = {}
    waiting = [root]
    while waiting:
        place = waiting.pop()
        for lower, days in neighbours(legs, place):
            if lower != root and lower not in above:
                above[lower] = (place, days)
                waiting.append(lower)
    return above


def places_along(legs, u, v):
    """The list of the places from u to v along the legs of a tree, both included."""
    above = hung_from(legs, v)
    places = [u]
    while places[-1] != v:
        places.append(above[places[-1]][0])
    return places


def road(web, tree, u, v):
    """The tuple of the places from u to v along the tree, both included."""
    n, _ = made_web(web)
    legs = made_tree(web, tree)
    check_place(n, u, 0)
    check_place(n, v, 1)
    return tuple(places_along(legs, u, v))


def by_days(way):
    """The key by which ways are gone through for a least tree: days, u, v."""
    return way[2], way[0], way[1]


def least_legs(n, ways):
    """The list of the ways that are taken, the quickest first, as each joins what was not joined."""
    legs = []
    labels = list(range(n))
    for u, v, days in sorted(ways, key=by_days):
        if labels[u] != labels[v]:
            legs.append((u, v, days))
            labels = joined(labels, u, v)
    return legs


def least_tree(web):
    """The least tree that is found by taking the quickest ways first."""
    n, ways = made_web(web)
    return tuple(sorted(least_legs(n, ways)))


def hung(web, u, v):
    """The longest leg on the road from u to v in the least tree, 0 for u = v."""
    days_between(web, u, v)
    n, ways = made_web(web)
    above = hung_from(least_legs(n, ways), v)
    longest = 0
    place = u
    while place != v:
        place, days = above[place]
        longest = max(longest, days)
    return longest


def cut(web, tree, index):
    """The side without place 0 into which the tree falls without its leg of this index."""
    n, _ = made_web(web)
    legs = made_tree(web, tree)
    if not is_within(index, 0, n - 2):
        raise BadMany(0)
    labels = labels_of(n, legs[:index] + legs[index + 1:])
    return tuple([place for place in range(n) if labels[place] != 0])


def across(web, lot):
    """The rising tuple of all ways of the web with just one end in the lot."""
    n, ways = made_web(web)
    return tuple(ways_across(n, ways, checked_lot(n, lot)))
