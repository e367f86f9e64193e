"""Papers of falls: a ring that can come with a charge, or numbers that show that none can."""

from enoughcharge.errors import NotUsable
from enoughcharge.fallmaps import fall_map
from enoughcharge.kinds import is_number
from enoughcharge.ringways import ring_at
from enoughcharge.shownruns import shown_run
from enoughcharge.ways import ENDLESS, endless_node, heights, ways_from


def on_paper(program, charge):
    """An on paper for the program and the charge."""
    if not is_number(charge):
        raise NotUsable("charge", -1)
    fallmap = fall_map(program, charge)
    ways = ways_from(fallmap.falls, fallmap.first)
    waking = endless_node(ways)
    if waking is not None:
        return ("ring", shown_run(fallmap.roads, ring_at(ways, waking), charge, ()))
    numbers = heights(fallmap.falls, ways.order)
    rows = [(waking, numbers[waking], bound_table(fallmap.roads, waking, charge)) for waking in sorted(set(numbers))]
    return ("numbers", tuple(rows))


def bound_table(roads, waking, charge):
    """The ascending tuple of the pairs (moment, bound) for all moments to which steps lead from a waking: the most
    that can be spent there, but no more than the charge.
    """
    spent = ways_from(roads, waking).spent
    return tuple([(moment, bound_of(spent[moment], charge)) for moment in sorted(set(spent))])


def bound_of(spent, charge):
    """The lesser of what is spent, which may be endless, and the charge."""
    return charge if spent == ENDLESS else min(int(spent), charge)
