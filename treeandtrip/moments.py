"""Moments: what stands at the end of a day, or ahead of the first one."""

from treeandtrip.basics import MOST_CRATES, MOST_DAYS, fresh, is_number, is_numbers, is_pair, is_place, is_within
from treeandtrip.errors import BadHands, BadMoment, Refused, TooMany
from treeandtrip.webs import made_web
from treeandtrip.worlds import world_of


def made_hands(web, thing):
    """The hands, if the value is hands for this web."""
    n, _ = made_web(web)
    return checked_hands(n, thing)


def checked_hands(n, thing):
    """The hands, if the value is hands for a web with n places."""
    if not isinstance(thing, tuple) or len(thing) != n:
        raise BadHands(-1)
    for index, many in enumerate(thing):
        if not is_within(many, 0, MOST_CRATES):
            raise BadHands(index)
    if sum(thing) > MOST_CRATES:
        raise TooMany(sum(thing))
    return fresh(thing)


def made_moment(web, terms, thing):
    """The moment, if the value is one of this web and these terms."""
    return checked_moment(world_of(web, terms), thing)


def checked_moment(world, thing):
    """The moment, if the value is one of this world."""
    if not isinstance(thing, tuple) or len(thing) != 3:
        raise BadMoment(-1)
    if not _are_hands(world.n, thing[0]):
        raise BadMoment(0)
    if not _are_empties(world.n, thing[1]):
        raise BadMoment(1)
    if not _are_loans(world, thing[2]):
        raise BadMoment(2)
    crates = _crates_in(thing)
    if crates > MOST_CRATES:
        raise TooMany(crates)
    return fresh_moment(thing)


def fresh_moment(moment):
    """The good moment, with each tuple in it made anew."""
    hands, empties, loans = moment
    # A moment can have thousands of items, and runs ask for it each day, so that `fresh` would be felt here.
    return (
        tuple(list(hands)), tuple([(days, place, many) for days, place, many in empties]),
        tuple([(days, home) for days, home in loans]))


def _are_hands(n, thing):
    try:
        checked_hands(n, thing)
    except Refused:
        return False
    return True


def _are_empties(n, thing):
    if not isinstance(thing, tuple):
        return False
    ahead = (-1, -1)
    for item in thing:
        if not is_numbers(item, 3):
            return False
        days, place, many = item
        if not 0 <= days < MOST_DAYS or not is_place(n, place) or many < 1 or (days, place) <= ahead:
            return False
        ahead = (days, place)
    return True


def _are_loans(world, thing):
    if not isinstance(thing, tuple):
        return False
    # The days of untold loans are at least those of the notice, and never fall.
    least = world.told
    for item in thing:
        if not is_pair(item) or not is_number(item[0]):
            return False
        days, home = item
        if home is None:
            if not least <= days < world.longest:
                return False
            least = days
        elif not 0 <= days < world.told or not is_place(world.n, home):
            return False
    return True


def is_moment(web, terms, thing):
    """Whether a value is a moment of this web and these terms."""
    try:
        made_moment(web, terms, thing)
    except Refused:
        return False
    return True


def first_moment(web, hands):
    """The moment ahead of the first day, with these hands."""
    return made_hands(web, hands), (), ()


def _crates_in(moment):
    hands, empties, loans = moment
    return sum(hands) + sum([item[2] for item in empties]) + len(loans)


def count_of(moment):
    """The number of all crates of the moment, of whose form only as much is checked as is counted."""
    if not isinstance(moment, tuple) or len(moment) != 3:
        raise BadMoment(-1)
    hands, empties, loans = moment
    if not isinstance(hands, tuple) or not all([is_number(many) for many in hands]):
        raise BadMoment(0)
    if not isinstance(empties, tuple) or not all([_ends_with_a_number(item) for item in empties]):
        raise BadMoment(1)
    if not isinstance(loans, tuple):
        raise BadMoment(2)
    return _crates_in(moment)


def _ends_with_a_number(thing):
    return isinstance(thing, tuple) and len(thing) == 3 and is_number(thing[2])
