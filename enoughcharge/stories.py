"""The story of a run, moment by moment."""

from enoughcharge.programparts import cost_at
from enoughcharge.runs import wakings_of
from enoughcharge.walks import moments_along


def story_of(program, made):
    """The pairs (place, spent) of all moments of a run, one by one."""
    for waking, stretch in zip(wakings_of(program, made), made):
        spent = 0
        for moment in moments_along(program, waking, stretch):
            yield (moment[1], spent)
            spent = spent + cost_at(program, moment[1])
