"""Days: what is told, asked for and sent, and what that does to a moment."""

from treeandtrip.basics import MOST_CRATES, fresh, is_numbers, is_pair, is_place, is_within
from treeandtrip.errors import BadAsks, BadDay, BadSends, BadTells, Lacks, TooFew, Untold
from treeandtrip.moments import checked_moment
from treeandtrip.worlds import world_of


def made_tells(web, terms, moment, thing):
    """The tells, if the value is tells for this moment."""
    world = world_of(web, terms)
    return checked_tells(world, checked_moment(world, moment), thing)


def checked_tells(world, moment, thing):
    """The tells, if the value is tells for this good moment."""
    if not isinstance(thing, tuple):
        raise BadTells(-1)
    loans = moment[2]
    ahead = -1
    for index, tell in enumerate(thing):
        if not is_numbers(tell, 2) or not ahead < tell[0] < len(loans):
            raise BadTells(index)
        if loans[tell[0]][1] is not None or not is_place(world.n, tell[1]):
            raise BadTells(index)
        ahead = tell[0]
    return fresh(thing)


def made_asks(web, terms, thing):
    """The asks, if the value is asks of one day."""
    return checked_asks(world_of(web, terms), thing)


def checked_asks(world, thing):
    """The asks, if the value is asks of one day of this world."""
    if not isinstance(thing, tuple) or len(thing) > world.k:
        raise BadAsks(-1)
    for index, ask in enumerate(thing):
        if not _is_ask(world, ask):
            raise BadAsks(index)
    return fresh(thing)


def _is_ask(world, thing):
    if not is_pair(thing) or not is_place(world.n, thing[0]):
        return False
    place, back = thing
    if back is None:
        return world.told < world.longest
    if not is_numbers(back, 2) or not is_place(world.n, back[1]):
        return False
    days, home = back
    if world.table is None:
        return 1 <= days <= world.told
    return home != place and days == world.table[place][home]


def checked_sends(world, thing):
    """The sends, if the value is sends of one day of this world."""
    if not isinstance(thing, tuple):
        raise BadSends(-1)
    ahead = (-1, -1)
    for index, send in enumerate(thing):
        # Places that no way joins, and numbers that are no places, are both not among the ways.
        if not is_numbers(send, 3) or send[:2] not in world.days_of or send[:2] <= ahead:
            raise BadSends(index)
        if not is_within(send[2], 1, MOST_CRATES):
            raise BadSends(index)
        ahead = send[:2]
    return fresh(thing)


def _told_loans(world, loans, tells):
    """The loans as they are behind these tells; `Untold` if a loan that must be told is not."""
    told = list(loans)
    for index, home in tells:
        told[index] = (world.told, home)
    for index, (days, home) in enumerate(told):
        if home is None:
            # The days of untold loans never fall, so that the first of them speaks for all.
            if days == world.told:
                raise Untold(index)
            return told
    return told


def _come_home(hands, empties, loans):
    """The crates at hand once everything that is due today has come, and the empties and loans that are left."""
    there = list(hands)
    come = 0
    for days, place, many in empties:
        # Empties rise by their days, so that none behind this one is due today.
        if days > 0:
            break
        there[place] += many
        come += 1
    for days, home in loans:
        if days == 0:
            there[home] += 1
    return there, list(empties[come:]), [loan for loan in loans if loan[0] > 0]


def amid_day(world, moment, tells, asks):
    """The hands, empties and loans, three lists, when good tells and asks are done at a good moment."""
    told = _told_loans(world, moment[2], tells)
    hands, empties, loans = _come_home(moment[0], moment[1], told)
    for index, (place, back) in enumerate(asks):
        if hands[place] == 0:
            raise Lacks(index)
        hands[place] -= 1
        loans.append((world.longest, None) if back is None else back)
    return hands, empties, loans


def _later(empties, sent):
    """The empties one day later, with those that are sent: a dict, `(days, place)` to how many."""
    rows = []
    met = {}
    for days, place, many in empties:
        pair = (days - 1, place)
        if pair in sent:
            met[pair] = True
            many += sent[pair]
        rows.append(pair + (many,))
    new = [pair + (sent[pair],) for pair in sent if pair not in met]
    return tuple(sorted(rows + new))


def behind_day(world, amid, sends):
    """The moment behind a day, from what is amid it and good sends."""
    hands, empties, loans = amid
    left = list(hands)
    sent = {}
    for index, (u, v, many) in enumerate(sends):
        if left[u] < many:
            raise TooFew(index)
        left[u] -= many
        pair = (world.days_of[u, v] - 1, v)
        sent[pair] = sent.get(pair, 0) + many
    return tuple(left), _later(empties, sent), tuple([(days - 1, home) for days, home in loans])


def opened(web, terms, moment, tells, asks):
    """The hands, empties and loans amid a day, when its tells and asks are done."""
    world = world_of(web, terms)
    begun = checked_moment(world, moment)
    told = checked_tells(world, begun, tells)
    hands, empties, loans = amid_day(world, begun, told, checked_asks(world, asks))
    return tuple(hands), tuple(empties), tuple(loans)


def after_day(web, terms, moment, day):
    """The moment behind a day."""
    world = world_of(web, terms)
    return day_done(world, checked_moment(world, moment), day)


def day_done(world, moment, day):
    """The moment behind a day, which is checked, at a good moment."""
    if not isinstance(day, tuple) or len(day) != 3:
        raise BadDay(-1)
    tells = checked_tells(world, moment, day[0])
    asks = checked_asks(world, day[1])
    sends = checked_sends(world, day[2])
    return behind_day(world, amid_day(world, moment, tells, asks), sends)
