"""Loops without falls, behind falls that can come with a charge."""

from enoughcharge.charges import check_charge
from enoughcharge.fallmaps import fall_map, falls_to
from enoughcharge.onpapers import bound_table
from enoughcharge.shownruns import shown_run
from enoughcharge.ways import endless_node, heights, round_way, ways_from


def has_own_loop(program, charge):
    """Whether there is an own loop with the charge."""
    check_charge(charge)
    return looping_ways(fall_map(program, charge)) is not None


def own_loop(program, charge):
    """An own loop, a pair (made, round); None if there is none."""
    check_charge(charge)
    fallmap = fall_map(program, charge)
    ways = looping_ways(fallmap)
    if ways is None:
        return None
    ahead, turn = round_way(ways, endless_node(ways))[:2]
    return (shown_run(fallmap.roads, falls_to(fallmap, ways.start), charge, ahead), turn)


def looping_ways(fallmap):
    """All ways of steps from any waking behind which there is a round, None if there is none."""
    for waking in fallmap.falls:
        ways = ways_from(fallmap.roads, waking)
        if endless_node(ways) is not None:
            return ways
    return None


def order_paper(program, charge):
    """An order paper for the program and the charge, None if there is an own loop."""
    check_charge(charge)
    fallmap = fall_map(program, charge)
    if looping_ways(fallmap) is not None:
        return None
    return tuple([(waking, order_table(fallmap.roads, waking, charge)) for waking in sorted(set(fallmap.falls))])


def order_table(roads, waking, charge):
    """The ascending tuple of the triples (moment, bound, number) behind a waking."""
    numbers = heights(roads, ways_from(roads, waking).order)
    return tuple([(moment, bound, numbers[moment]) for moment, bound in bound_table(roads, waking, charge)])
