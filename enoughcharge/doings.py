"""Whether a program does with a charge, and all sets of the things that can be chosen for it."""

from enoughcharge.answers import answers_among, right_answers
from enoughcharge.fallmaps import fall_map
from enoughcharge.ringways import ring_in


def does(program, charge):
    """Whether no ring can come with the charge, and only right answers can."""
    fallmap = fall_map(program, charge)
    if ring_in(fallmap.falls, fallmap.first) is not None:
        return False
    return answers_among(program, fallmap.roads) == right_answers(program)


def sets_of(things):
    """The list of all sets of these things, ascending tuples of them, which are ascending themselves."""
    sets = [()]
    for thing in things:
        sets = sets + [chosen + (thing,) for chosen in sets]
    return sorted(set(sets))
