"""The widest ways of falls to each waking, and to each answer."""

from enoughcharge.charges import is_wide
from enoughcharge.fallmaps import fall_map
from enoughcharge.moments import answered
from enoughcharge.ringways import widths_in
from enoughcharge.shownruns import shown_pumped, shown_run
from enoughcharge.ways import ENDLESS, labels_back, shortest_from


class Reach:
    """How the answers of a program come."""

    def __init__(self, fallmap, ahead, answers):
        self.fallmap = fallmap
        # For each waking but the first moment: the triple (waking ahead, fall, cost) that ends a widest way to it.
        self.ahead = ahead
        # For each answer that can come the triple (width, waking, moment): the answer of the moment, which comes
        # without a fall behind the waking, to which the widest way has this width. The waking of a right one is the
        # first moment.
        self.answers = answers


def reach_of(program):
    """The Reach of a program."""
    fallmap = fall_map(program, 0)
    widths, ahead = widest_ways(fallmap)
    answers = {}
    seen = {}
    for waking in widths:
        line = [waking]
        while line:
            moment = line.pop()
            if moment not in seen:
                seen[moment] = True
                line.extend([leg[1] for leg in fallmap.roads[moment]])
                answer = answered(program, moment)
                if answer is not None and answer not in answers:
                    answers[answer] = (widths[waking], waking, moment)
    return Reach(fallmap, ahead, answers)


def widest_ways(fallmap):
    """The width of a widest way of falls to each waking, the widest ones first; and what each waking has ahead."""
    groups = falls_by_width(fallmap.falls)
    found = {fallmap.first: ENDLESS}
    ahead = {}
    for width in widths_in(fallmap.falls)[::-1]:
        line = list(groups[width])
        at = 0
        while at < len(line):
            waking, leg = line[at]
            after = leg[1]
            if waking in found and after not in found:
                found[after] = width
                ahead[after] = (waking, leg[0], leg[2])
                line.extend([(after, each) for each in fallmap.falls[after] if is_wide(each[0][2], width)])
            at = at + 1
    return (found, ahead)


def falls_by_width(falls):
    """For each width the list of the pairs (waking, leg) of all falls of this width."""
    groups = {}
    for waking in falls:
        for leg in falls[waking]:
            width = leg[0][2]
            if width not in groups:
                groups[width] = []
            groups[width].append((waking, leg))
    return groups


def is_right(reach, answer):
    """Whether an answer that can come is right."""
    return reach.answers[answer][1] == reach.fallmap.first


def shown_answer(reach, answer):
    """A run, or a pumped run, of the answer width to an answer that can come."""
    width, waking, moment = reach.answers[answer]
    fallmap = reach.fallmap
    falls = labels_back(reach.ahead, fallmap.first, waking)
    stretch = labels_back(shortest_from(fallmap.roads, waking), waking, moment)
    if width == ENDLESS:
        return shown_pumped(fallmap.roads, falls, stretch)
    return shown_run(fallmap.roads, falls, width, stretch)
