"""Rings in maps of falls, and the numbers of falls where there is none."""

from enoughcharge.charges import is_wide
from enoughcharge.shownruns import shown_run
from enoughcharge.ways import ENDLESS, endless_node, heights, round_way, ways_from


def ring_in(falls, first):
    """The falls of any ring in a map of falls, None if there is none."""
    ways = ways_from(falls, first)
    waking = endless_node(ways)
    if waking is None:
        return None
    ahead, turn = round_way(ways, waking)[:2]
    return ahead + turn


def shown_ring(fallmap, charge):
    """A run that is a ring and can come with the charge of this FallMap, in which there is a ring."""
    return shown_run(fallmap.roads, ring_in(fallmap.falls, fallmap.first), charge, ())


def fall_numbers(fallmap):
    """The most falls that can still come behind each waking, None if there is a ring."""
    ways = ways_from(fallmap.falls, fallmap.first)
    if endless_node(ways) is not None:
        return None
    return heights(fallmap.falls, ways.order)


def widest_ring(fallmap):
    """The pair of the ring width and the falls of a ring of this width; a pair of None without a ring."""
    widths = widths_in(fallmap.falls)
    least = 0
    most = len(widths)
    # With each of the widths before index least a ring can come, with none from index most on.
    while least < most:
        middle = (least + most) // 2
        if ring_in(wide_falls(fallmap.falls, widths[middle]), fallmap.first) is None:
            most = middle
        else:
            least = middle + 1
    if least == 0:
        return (None, None)
    width = widths[least - 1]
    return (width, ring_in(wide_falls(fallmap.falls, width), fallmap.first))


def widths_in(falls):
    """The list of the widths of all falls of a map, ascending, an endless one last."""
    widths = {leg[0][2]: True for waking in falls for leg in falls[waking]}
    numbers = [int(width) for width in widths if width != ENDLESS]
    return sorted(set(numbers)) + [width for width in widths if width == ENDLESS]


def wide_falls(falls, least):
    """The map of those falls that have at least this width."""
    return {waking: [leg for leg in falls[waking] if is_wide(leg[0][2], least)] for waking in falls}
