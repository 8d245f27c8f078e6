"""Lost moments: those for which a paper shows that a refusal can be forced."""

from treeandtrip.basics import MOST_DAYS
from treeandtrip.clusters import cluster_rows
from treeandtrip.moments import checked_moment
from treeandtrip.runs import moments
from treeandtrip.worlds import world_of


def lost_paper(web, terms, moment):
    """The lost paper (h, lot) with the least h and then the first lot, None if there is none."""
    world = world_of(web, terms)
    return paper_of(world, rows_of(world), checked_moment(world, moment))


def doomed(web, terms, run):
    """(index, h, lot) of the first moment of the run that has a lost paper, None if none has."""
    world = world_of(web, terms)
    rows = rows_of(world)
    for index, moment in enumerate(moments(web, terms, run)):
        paper = paper_of(world, rows, moment)
        if paper is not None:
            return (index,) + paper
    return None


def rows_of(world):
    """The rows of all clusters but the one of all places, in the order of lots."""
    return [row for row in cluster_rows(world.n, world.ways) if row[2] is not None]


def paper_of(world, rows, moment):
    """The lost paper for a good moment, from the rows of the clusters, or None."""
    due = _due_at_places(world.n, moment)
    paper = None
    for row in rows:
        # Of papers with equally many days the one that is found first stays: its lot comes first.
        h = _least_h(world.k, row, due, MOST_DAYS if paper is None else paper[0])
        if h is not None:
            paper = (h, row[0])
    return paper


def _least_h(k, row, due, end):
    """The least h, below the end, for which the cluster of this row has a lost paper, or None."""
    lot, joined, opening, length = row
    for h in range(max(0, joined - 1), min(opening, end)):
        if sum([due[place][h] for place in lot]) < k * (length + h + 1):
            return h
    return None


def _due_at_places(n, moment):
    """For each place how many crates are at hand or told to come there within 0, 1, 2 .. days."""
    hands, empties, loans = moment
    due = [[0] * MOST_DAYS for _ in range(n)]
    for days, place, many in empties:
        due[place][days] += many
    for days, home in loans:
        if home is not None:
            due[home][days] += 1
    return [_summed(many, due[place]) for place, many in enumerate(hands)]


def _summed(first, rows):
    """The sums of the first number and of those up to each of the others."""
    total = first
    sums = []
    for many in rows:
        total += many
        sums.append(total)
    return sums
