"""What a house does amid a day: its expressions and statements are made into functions once, and done on each day."""

from treeandtrip.basics import MOST_DAYS

FARTHEST = 1000000000


class Amid:
    """What a house sees amid a day, and what it does there: the crates that it sends and the cells that it sets."""

    def __init__(self, world, opening, deeds, over, held):
        hands, empties, loans = opening
        tells, asks = deeds
        self.n = world.n
        self.days_of = world.days_of
        self.over = over
        self.held = held
        self.stock = list(hands)
        self.sent = {}
        self.away = len([1 for _, home in loans if home is None])
        self.asked = _tally(world.n, [place for place, _ in asks])
        homes = [home for _, home in tells] + [back[1] for _, back in asks if back is not None]
        self.homes = _tally(world.n, homes)
        self.coming = empties + [(days, home, 1) for days, home in loans if home is not None]
        self.due = None

    def due_at(self, place, most):
        """The crates that are due at a place in at most so many days."""
        if most < 0:
            return 0
        # Many houses never ask for this, and the others ask for it over and over.
        if self.due is None:
            self.due = _due_within(self.n, self.coming)
        return self.due[place][min(most, MOST_DAYS)]

    def send(self, u, v, many):
        """Send so many crates over a way, or as many as there are; nothing where no way is."""
        # What is no place is at the end of no way.
        if (u, v) not in self.days_of:
            return
        moved = min(many, self.stock[u])
        if moved > 0:
            self.stock[u] -= moved
            self.sent[u, v] = self.sent.get((u, v), 0) + moved

    def sends(self):
        """The sends of the day so far, rising."""
        return tuple(sorted([pair + (many,) for pair, many in self.sent.items()]))


def _tally(n, places):
    many = [0] * n
    for place in places:
        many[place] += 1
    return many


def _due_within(n, coming):
    """For each place how many crates come there within 0, 1, 2 .. days."""
    due = [[0] * (MOST_DAYS + 1) for _ in range(n)]
    for days, place, many in coming:
        due[place][days] += many
    for row in due:
        for days in range(MOST_DAYS):
            row[days + 1] += row[days]
    return due


def _cut(number):
    if -FARTHEST <= number <= FARTHEST:
        return number
    return FARTHEST if number > 0 else -FARTHEST


def _day(_):
    return lambda now: now.over


def _away(_):
    return lambda now: now.away


def _hand(parts):
    first = parts[0]

    def found(now):
        place = first(now)
        return now.stock[place] if 0 <= place < now.n else 0

    return found


def _asked(parts):
    first = parts[0]

    def found(now):
        place = first(now)
        return now.asked[place] if 0 <= place < now.n else 0

    return found


def _told(parts):
    first = parts[0]

    def found(now):
        place = first(now)
        return now.homes[place] if 0 <= place < now.n else 0

    return found


def _bound(parts):
    first, second = parts

    def found(now):
        place = first(now)
        most = second(now)
        return now.due_at(place, most) if 0 <= place < now.n else 0

    return found


def _sum(parts):
    first, second = parts
    return lambda now: _cut(first(now) + second(now))


def _difference(parts):
    first, second = parts
    return lambda now: _cut(first(now) - second(now))


def _product(parts):
    first, second = parts
    return lambda now: _cut(first(now) * second(now))


def _quotient(parts):
    first, second = parts

    def found(now):
        above = first(now)
        below = second(now)
        return 0 if below == 0 else above // below

    return found


def _lesser(parts):
    first, second = parts
    return lambda now: min(first(now), second(now))


def _greater(parts):
    first, second = parts
    return lambda now: max(first(now), second(now))


def _is_less(parts):
    first, second = parts
    return lambda now: 1 if first(now) < second(now) else 0


def _is_equal(parts):
    first, second = parts
    return lambda now: 1 if first(now) == second(now) else 0


VALUES = {
    "day": _day, "away": _away, "hand": _hand, "asked": _asked, "told": _told, "bound": _bound, "+": _sum,
    "-": _difference, "*": _product, "/": _quotient, "min": _lesser, "max": _greater, "<": _is_less, "=": _is_equal,
}


def value_of(expression):
    """The function that finds the value of a good expression amid a day."""
    if isinstance(expression, int):
        return lambda now: expression
    if expression[0] == "cell":
        cell = expression[1]
        return lambda now: now.held[cell]
    make = VALUES[expression[0]]
    return make([value_of(part) for part in expression[1:]])


def _act_of_send(statement):
    first, second, third = [value_of(part) for part in statement[1:]]
    return lambda now: now.send(first(now), second(now), third(now))


def _act_of_set(statement):
    cell = statement[1]
    value = value_of(statement[2])

    def act(now):
        now.held[cell] = value(now)

    return act


def _act_of_if(statement):
    value = value_of(statement[1])
    first, second = acts_of(statement[2]), acts_of(statement[3])

    def act(now):
        do_all(first if value(now) != 0 else second, now)

    return act


def _act_of_times(statement):
    _, cell, many, body = statement
    acts = acts_of(body)

    def act(now):
        for turn in range(many):
            now.held[cell] = turn
            do_all(acts, now)

    return act


ACTS = {"send": _act_of_send, "set": _act_of_set, "if": _act_of_if, "times": _act_of_times}


def acts_of(body):
    """The functions that do the statements of a good body amid a day, in their order."""
    acts = []
    for statement in body:
        make = ACTS[statement[0]]
        acts.append(make(statement))
    return acts


def do_all(acts, now):
    """Do these acts, one after another."""
    for act in acts:
        act(now)
