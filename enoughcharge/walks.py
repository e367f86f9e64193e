"""Steps that follow one another, without any check of the moment at which they begin."""

from enoughcharge.moments import allows, stepped
from enoughcharge.programparts import cost_at


def moments_along(program, moment, steps):
    """The list of this moment and the moments after each step, up to the first one that is not possible."""
    moments = [moment]
    for step in steps:
        if not allows(program, moments[-1], step):
            return moments
        moments.append(stepped(program, moments[-1], step))
    return moments


def cost_along(program, moments):
    """What the steps cost that lead from the first of these moments to the last one."""
    return sum([cost_at(program, moment[1]) for moment in moments[:-1]])
