"""The foe: what it tells and asks on the next day, so that a house with too few crates will lack one."""

from treeandtrip.days import amid_day
from treeandtrip.lost import paper_of, rows_of
from treeandtrip.moments import checked_moment
from treeandtrip.worlds import world_of


def foe_day(web, terms, moment):
    """The foe's tells and asks on the day behind the moment."""
    world = world_of(web, terms)
    return foe_deeds(world, rows_of(world), checked_moment(world, moment))


def foe_deeds(world, rows, moment):
    """The foe's tells and asks for a good moment, from the rows of the clusters."""
    places, home = _aim(world, paper_of(world, rows, moment))
    untold = [index for index, loan in enumerate(moment[2]) if loan == (world.told, None)]
    tells = tuple([(index, home) for index in untold])
    hands = amid_day(world, moment, tells, ())[0]
    asks = []
    while len(asks) < world.k:
        place = max(places, key=lambda each: hands[each])
        asks.append((place, _back(world, place, home)))
        if hands[place] == 0:
            break
        hands[place] -= 1
    return tells, tuple(asks)


def _aim(world, paper):
    """The places at which the foe may ask, and the home to which it leads the crates."""
    if paper is not None:
        return paper[1], min([place for place in range(world.n) if place not in paper[1]])
    if world.table is None:
        return tuple(range(world.n)), 0
    a = min([place for place, row in enumerate(world.table) if max(row) == world.longest])
    return (a,), world.table[a].index(world.longest)


def _back(world, place, home):
    """What the foe says of the return of a crate that it asks for at this place."""
    if world.told < world.longest:
        return None
    if world.table is None:
        return world.longest, home
    return world.table[place][home], home
