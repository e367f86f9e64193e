"""Papers of falls: a ring that can come with a charge, or numbers that show that none can."""

from enoughcharge.charges import bound_of, check_charge
from enoughcharge.fallmaps import fall_map
from enoughcharge.ringways import fall_numbers, shown_ring
from enoughcharge.ways import ways_from


def on_paper(program, charge):
    """An on paper for the program and the charge."""
    check_charge(charge)
    fallmap = fall_map(program, charge)
    numbers = fall_numbers(fallmap)
    if numbers is None:
        return ("ring", shown_ring(fallmap, charge))
    rows = [(waking, numbers[waking], bound_table(fallmap.roads, waking, charge)) for waking in sorted(set(numbers))]
    return ("numbers", tuple(rows))


def bound_table(roads, waking, charge):
    """The ascending tuple of the pairs (moment, bound) for all moments to which steps lead from a waking: the most
    that can be spent there, but no more than the charge.
    """
    spent = ways_from(roads, waking).spent
    return tuple([(moment, bound_of(spent[moment], charge)) for moment in sorted(set(spent))])
