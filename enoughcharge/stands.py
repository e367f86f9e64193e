"""Where runs have come to, move by move; a move is a step, or the string "fall"."""

from enoughcharge.moments import first_moment, stepped, woken
from enoughcharge.programparts import cost_at
from enoughcharge.runs import legs_along, width_of
from enoughcharge.widths import Width


class Stand:
    """Where a run has come to; it never changes."""

    def __init__(self, stretches, moment, spent, width):
        self.stretches = stretches
        self.moment = moment
        self.spent = spent
        self.width = width


def first_stand(program):
    """The Stand at the beginning."""
    return Stand(((),), first_moment(program), 0, Width())


def stand_on(program, stand, move):
    """The Stand after a move that is possible."""
    made, moment = stand.stretches, stand.moment
    spent = stand.spent + cost_at(program, moment[1])
    if move == "fall":
        return Stand(made + ((),), woken(program, moment), 0, stand.width & Width(spent - 1))
    return Stand(made[:-1] + (made[-1] + (move,),), stepped(program, moment, move), spent, stand.width)


def stand_after(program, made):
    """The Stand after a run."""
    _, moment, spent = legs_along(program, made)[-1]
    return Stand(made, moment, spent, Width(width_of(program, made)))
