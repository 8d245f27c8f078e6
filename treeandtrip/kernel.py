"""The kernel: judges of the short proofs that a house will lack a crate, that a tree is a least one, and of others."""

from treeandtrip.basics import checked_lot, is_number, is_pair, is_within
from treeandtrip.clusters import legs_and_opening
from treeandtrip.days import amid_day, checked_asks, checked_tells
from treeandtrip.errors import BadMany, Lacks, Refused
from treeandtrip.moments import checked_moment, made_hands
from treeandtrip.numbers import first_hands
from treeandtrip.runs import last_moment
from treeandtrip.trees import days_in_all, days_of_longest, made_tree
from treeandtrip.webs import made_web
from treeandtrip.worlds import world_of

MOST_AHEAD = 400


def due_in(web, terms, moment, lot, h):
    """The crates at hand in the lot, and those of which it is told that they come there within h days."""
    world = world_of(web, terms)
    good = checked_moment(world, moment)
    places = checked_lot(world.n, lot)
    if not is_within(h, 0, MOST_AHEAD):
        raise BadMany(0)
    return _due(good, places, h)


def _due(moment, lot, h):
    hands, empties, loans = moment
    there = [hands[place] for place in lot]
    coming = [many for days, place, many in empties if days <= h and place in lot]
    # The home of an untold loan is None, which is in no lot.
    told = [home for days, home in loans if days <= h and home in lot]
    return sum(there) + sum(coming) + len(told)


def lost_right(web, terms, moment, lot, h):
    """Whether (h, lot) is a lost paper for the moment."""
    try:
        world = world_of(web, terms)
        good = checked_moment(world, moment)
        legs, opening = legs_and_opening(world.n, world.ways, checked_lot(world.n, lot))
    except Refused:
        return False
    if opening is None or not is_within(h, max(0, days_of_longest(legs) - 1), opening - 1):
        return False
    return _due(good, lot, h) < world.k * (days_in_all(legs) + h + 1)


def moats_right(web, thing):
    """Whether a value is a right list of moats of the web."""
    try:
        n, ways = made_web(web)
    except Refused:
        return False
    if not isinstance(thing, tuple) or not all([_is_moat(n, item) for item in thing]):
        return False
    lots = [sum([1 << place for place in lot]) for lot, _ in thing]
    if not _are_nested(n, lots):
        return False
    moats = list(zip(lots, [days for _, days in thing]))
    return all([_days_out(moats, u, v) <= d and _days_out(moats, v, u) <= d for u, v, d in ways])


def _is_moat(n, thing):
    if not is_pair(thing) or not is_number(thing[1]) or thing[1] < 1:
        return False
    try:
        return len(checked_lot(n, thing[0])) < n
    except Refused:
        return False


def _are_nested(n, lots):
    """Whether of any two unlike lots, told by the bits of a number, they are apart or one is within the other."""
    # So many lots, none of them all places, are never nested; a longer list is not gone through by pairs.
    if len(lots) > 2 * n - 2:
        return False
    for index, lot in enumerate(lots):
        for other in lots[:index]:
            if lot == other or lot & other not in (0, lot, other):
                return False
    return True


def _days_out(moats, place, outside):
    """The days of those moats, bits and days, that lie around the one place and not around the other."""
    return sum([days for lot, days in moats if lot >> place & 1 and not lot >> outside & 1])


def least_paper(web, tree, thing):
    """Whether right moats show that the tree is a least one."""
    try:
        legs = made_tree(web, tree)
    except Refused:
        return False
    if not moats_right(web, thing):
        return False
    return sum([days for _, days in thing]) == days_in_all(legs) + days_of_longest(legs)


def standing_right(web, terms, hands, tree, root):
    """Whether the hands are enough for a house that works along the tree from the root."""
    try:
        good = made_hands(web, hands)
        first = first_hands(web, terms, tree, root)
    except Refused:
        return False
    return all([many >= least for many, least in zip(good, first)])


def lack_right(web, terms, run, tells, asks):
    """Whether the run, with these tells and asks behind it, shows that its house lacked a crate for the last ask."""
    try:
        world = world_of(web, terms)
        moment = last_moment(world, run)
        amid_day(world, moment, checked_tells(world, moment, tells), checked_asks(world, asks))
    except Lacks as lack:
        return lack.what == len(asks) - 1
    except Refused:
        return False
    return False
