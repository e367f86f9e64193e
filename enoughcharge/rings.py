"""The widest ring of a program, and the least charge with which no ring can come."""

from enoughcharge.charges import check_charge
from enoughcharge.fallmaps import fall_map
from enoughcharge.ringways import ring_in, widest_ring
from enoughcharge.shownruns import shown_pumped, shown_run
from enoughcharge.ways import ENDLESS


def ring_width(program):
    """The ring width of the program: a number, "endless", or None without a ring."""
    return widest_ring(fall_map(program, 0))[0]


def ring_run(program):
    """A ring of the ring width; a pumped run if it is "endless", None without a ring."""
    fallmap = fall_map(program, 0)
    width, ring = widest_ring(fallmap)
    if ring is None:
        return None
    if width == ENDLESS:
        return shown_pumped(fallmap.roads, ring, ())
    return shown_run(fallmap.roads, ring, width, ())


def least_charge(program):
    """The least charge with which no ring can come, None if there is none."""
    width = ring_width(program)
    if width is None:
        return 0
    if width == ENDLESS:
        return None
    return width + 1


def falls_end(program, charge):
    """Whether no ring can come with the charge."""
    check_charge(charge)
    fallmap = fall_map(program, charge)
    return ring_in(fallmap.falls, fallmap.first) is None
