"""The wakings of a program and the falls between them, as a map of ways."""

from enoughcharge.charges import fall_width, is_wide
from enoughcharge.moments import first_moment, possible_steps, stepped, woken
from enoughcharge.programparts import cost_at
from enoughcharge.ways import labels_back, shortest_from, ways_from


# The node of where a live machine stands: its moment may be a waking, too, but with something spent there.
NOW = "now"


class FallMap:
    """All wakings that can come with a charge, behind a first node: the first moment, or NOW.

    A fall is a triple (waking, moment, width): it comes at the moment, behind steps from the waking, and its width is
    the greatest one of all falls from this waking to the same next one.
    """

    def __init__(self, first, roads, falls):
        self.first = first
        # The map of the steps from all moments that can come with the charge.
        self.roads = roads
        # The map of the falls that can come with the charge; each of its legs costs 1.
        self.falls = falls


def fall_map(program, charge):
    """The FallMap of a program with a charge."""
    first = first_moment(program)
    return fall_map_behind(program, charge, (first, first, charge))


def fall_map_now(program, charge, moment, spent):
    """The FallMap of all that can come behind a moment at which so much is spent."""
    return fall_map_behind(program, charge, (NOW, moment, charge - spent))


def fall_map_behind(program, charge, first):
    """The FallMap behind a triple: the first node, the moment at which it is, and the least width of the falls that
    can come behind it, what is spent there already not counted.
    """
    roads = {}
    fallen = {}
    falls = {}
    line = [first]
    while line:
        node, begin, least = line.pop()
        if node not in falls:
            fresh = [begin]
            while fresh:
                moment = fresh.pop()
                if moment not in roads:
                    roads[moment] = steps_on(program, moment)
                    fallen[moment] = fall_at(program, moment)
                    fresh.extend([leg[1] for leg in roads[moment]])
            falls[node] = falls_on(fallen, ways_from(roads, begin), least)
            line.extend([(leg[1], leg[1], charge) for leg in falls[node]])
    return FallMap(first[0], roads, falls)


def steps_on(program, moment):
    """The legs of the steps that are possible at a moment."""
    due = cost_at(program, moment[1])
    return [(step, stepped(program, moment, step), due) for step in possible_steps(program, moment)]


def step_map(program, moment):
    """The map of the steps from all moments to which steps lead from this one, itself included."""
    roads = {}
    line = [moment]
    while line:
        now = line.pop()
        if now not in roads:
            roads[now] = steps_on(program, now)
            line.extend([leg[1] for leg in roads[now]])
    return roads


def fall_at(program, moment):
    """The pair of the cost that is due at a moment and the waking behind a fall; None where no cost is due."""
    due = cost_at(program, moment[1])
    return (due, woken(program, moment)) if due > 0 else None


def falls_on(fallen, ways, charge):
    """The legs of the widest falls from the start of these ways to each next waking, as far as they can come; fallen
    has what fall_at returns for each moment.
    """
    widest = {}
    for moment in ways.spent:
        if fallen[moment] is not None:
            due, after = fallen[moment]
            width = fall_width(ways.spent[moment], due)
            if is_wide(width, charge) and (after not in widest or not is_wide(widest[after][2], width)):
                widest[after] = (ways.start, moment, width)
    return [(widest[after], after, 1) for after in widest]


def falls_to(fallmap, waking):
    """The falls of a shortest way to a waking that can come."""
    return labels_back(shortest_from(fallmap.falls, fallmap.first), fallmap.first, waking)
