"""Runs: days one behind another, from the first hands."""

from treeandtrip.basics import fresh, is_pair
from treeandtrip.days import day_done
from treeandtrip.errors import BadRun, Refused
from treeandtrip.moments import checked_hands
from treeandtrip.worlds import world_of

MOST_RUN_DAYS = 600


def made_run(web, terms, thing):
    """The run, if the value is one of this web and these terms."""
    last_moment(world_of(web, terms), thing)
    return fresh(thing)


def is_run(web, terms, thing):
    """Whether a value is a run of this web and these terms."""
    try:
        made_run(web, terms, thing)
    except Refused:
        return False
    return True


def moments(web, terms, run):
    """The tuple of the moments ahead of the first day and behind each day."""
    world = world_of(web, terms)
    moment, days = begun_run(world, run)
    found = [moment]
    for index, day in enumerate(days):
        moment = next_moment(world, moment, index, day)
        found.append(moment)
    return tuple(found)


def last_moment(world, thing):
    """The moment behind the last day of a run, if the value is one of this world."""
    moment, days = begun_run(world, thing)
    for index, day in enumerate(days):
        moment = next_moment(world, moment, index, day)
    return moment


def begun_run(world, thing):
    """The first moment and the days, which are still to be looked at, if a run of this world can begin so."""
    if not is_pair(thing) or not isinstance(thing[1], tuple) or len(thing[1]) > MOST_RUN_DAYS:
        raise BadRun(-1)
    hands, days = thing
    return (checked_hands(world.n, hands), (), ()), days


def next_moment(world, moment, index, day):
    """The moment behind the day of this index; `BadRun` if the day cannot be done at the moment."""
    try:
        return day_done(world, moment, day)
    except Refused:
        raise BadRun(index) from None
