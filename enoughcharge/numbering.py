"""The most falls that can come with a charge."""

from enoughcharge.charges import check_charge
from enoughcharge.errors import NeverEnough
from enoughcharge.fallmaps import fall_map
from enoughcharge.ringways import fall_numbers, shown_ring
from enoughcharge.shownruns import shown_run


def numbering(program, charge):
    """The set of the pairs (waking, number) of all wakings that can come with the charge; NeverEnough with a ring."""
    check_charge(charge)
    fallmap = fall_map(program, charge)
    numbers = fall_numbers(fallmap)
    if numbers is None:
        raise NeverEnough(shown_ring(fallmap, charge))
    return tuple([(waking, numbers[waking]) for waking in sorted(set(numbers))])


def most_falls(program, charge):
    """The greatest number of falls of a run that can come with the charge, None because of a ring."""
    check_charge(charge)
    fallmap = fall_map(program, charge)
    numbers = fall_numbers(fallmap)
    return None if numbers is None else numbers[fallmap.first]


def falling_run(program, charge):
    """A run that can come with the charge and has the most falls, None because of a ring."""
    check_charge(charge)
    fallmap = fall_map(program, charge)
    numbers = fall_numbers(fallmap)
    if numbers is None:
        return None
    falls = []
    waking = fallmap.first
    while numbers[waking] > 0:
        falls.append(deepest_leg(fallmap.falls[waking], numbers))
        waking = falls[-1][1]
    return shown_run(fallmap.roads, [leg[0] for leg in falls], charge, ())


def deepest_leg(legs, numbers):
    """One of the legs that lead to the waking with the greatest number."""
    most = max([int(numbers[leg[1]]) for leg in legs])
    return [leg for leg in legs if numbers[leg[1]] == most][0]
