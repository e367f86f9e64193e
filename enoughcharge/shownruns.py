"""Runs, and pumped runs, that show what a map of falls tells."""

from enoughcharge.ways import ENDLESS, labels_back, round_way, ways_from


def shown_run(roads, falls, least, stretch):
    """The run of these falls and this last stretch, with at least this width, or with that of its least wide fall."""
    return tuple([shown_stretch(roads, fall, least) for fall in falls]) + (stretch,)


def shown_stretch(roads, fall, least):
    """The steps ahead of a fall of its width; ahead of an endless one, of at least this width."""
    waking, moment, width = fall
    ways = ways_from(roads, waking)
    if width != ENDLESS:
        return labels_back(ways.last, waking, moment)
    ahead, turn, behind, cost = round_way(ways, moment)
    return ahead + turn * ((least + cost - 1) // cost) + behind


def shown_pumped(roads, falls, stretch):
    """The pumped run of these falls, all of them endless, and this last stretch."""
    return tuple([pumped_stretch(roads, fall) for fall in falls]) + (stretch,)


def pumped_stretch(roads, fall):
    """The pumped stretch ahead of an endless fall."""
    waking, moment, _ = fall
    return round_way(ways_from(roads, waking), moment)[:3]
