"""The most that can be spent without a fall."""

from enoughcharge.errors import NotUsable
from enoughcharge.fallmaps import fall_at, falls_on, step_map
from enoughcharge.moments import is_moment, woken
from enoughcharge.ways import ways_from


def most_spent(program, waking):
    """The set of the pairs (moment, spent) for all moments to which steps lead from a waking."""
    spent = checked_ways(program, waking).spent
    return tuple([(moment, spent[moment]) for moment in sorted(set(spent))])


def falls_from(program, waking):
    """The set of the pairs (waking, width) for all wakings to which a fall leads, behind steps from a waking."""
    ways = checked_ways(program, waking)
    legs = falls_on({moment: fall_at(program, moment) for moment in ways.spent}, ways, 0)
    widths = {after: fall[2] for fall, after, _ in legs}
    return tuple([(after, widths[after]) for after in sorted(set(widths))])


def checked_ways(program, waking):
    """All ways of steps from any value that is a waking."""
    if not is_moment(program, waking) or woken(program, waking) != waking:
        raise NotUsable("waking", -1)
    return ways_from(step_map(program, waking), waking)
