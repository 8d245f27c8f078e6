"""The hunt: the foe asks a house until it lacks a crate, or until it is known to stand so long."""

from treeandtrip.errors import Lacks
from treeandtrip.foe import foe_deeds
from treeandtrip.lost import rows_of
from treeandtrip.runner import Runner
from treeandtrip.trees import days_of_longest, least_legs
from treeandtrip.worlds import world_of


def hunted(web, terms, house, hands):
    """(run, tells, asks) of the days ahead of the first day that lacks and of that day, None if none lacks."""
    runner = Runner(web, terms, house, hands)
    world = world_of(web, terms)
    rows = rows_of(world)
    for _ in range(world.longest + days_of_longest(least_legs(world.n, world.ways))):
        tells, asks = foe_deeds(world, rows, runner.moment())
        try:
            runner.take(tells, asks)
        except Lacks:
            return runner.run(), tells, asks
    return None
