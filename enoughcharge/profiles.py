"""Profiles: all answers of a program and what can come with which charge."""

from enoughcharge.charges import can_come
from enoughcharge.reaches import is_right, reach_of
from enoughcharge.ringways import widest_ring
from enoughcharge.ways import ENDLESS


def profile(program):
    """The pair of the ring width and the rows (answer, whether it is right, answer width)."""
    reach = reach_of(program)
    answers = sorted(set(reach.answers))
    rows = [(answer, is_right(reach, answer), reach.answers[answer][0]) for answer in answers]
    return (widest_ring(reach.fallmap)[0], tuple(rows))


def critical_charges(program):
    """The set of the charges at which it changes which answers, or whether a ring, can come."""
    return tuple(sorted(set(criticals(profile(program)))))


def criticals(told):
    """The critical charges of a profile, in any order."""
    ring, rows = told
    widths = [ring] + [width for _, _, width in rows]
    return [width + 1 for width in widths if width is not None and width != ENDLESS]


def outcome(told, charge):
    """What can come with a charge by a profile: the tuple of the pairs (answer, whether it is right), and whether a
    ring can come.
    """
    ring, rows = told
    answers = tuple([(answer, right) for answer, right, width in rows if can_come(width, charge)])
    return (answers, can_come(ring, charge))
