"""Pumped runs, which stand for runs with their rounds any number of times."""

from enoughcharge.errors import InvalidPaper, NotUsable
from enoughcharge.kinds import is_number, is_tuple_of_tuples
from enoughcharge.moments import first_moment, woken
from enoughcharge.programparts import cost_at
from enoughcharge.walks import moments_along


def lets_pumped(program, thing):
    """The number of falls of a pumped run; InvalidPaper for any value that is none."""
    if not has_pumped_shape(thing):
        raise InvalidPaper("shape", -1)
    waking = first_moment(program)
    for at, (ahead, turn, behind) in enumerate(thing[:-1]):
        moments = moments_possible(program, waking, at, ahead + turn + behind)
        if len(turn) == 0 or moments[len(ahead)] != moments[len(ahead) + len(turn)]:
            raise InvalidPaper("round", at)
        if cost_at(program, moments[-1][1]) == 0:
            raise InvalidPaper("fall", at)
        waking = woken(program, moments[-1])
    moments_possible(program, waking, len(thing) - 1, thing[-1])
    return len(thing) - 1


def has_pumped_shape(thing):
    """Whether any value is a nonempty tuple of triples of tuples and, last, a tuple."""
    if not isinstance(thing, tuple) or len(thing) == 0 or not isinstance(thing[-1], tuple):
        return False
    return all([is_tuple_of_tuples(triple) and len(triple) == 3 for triple in thing[:-1]])


def moments_possible(program, waking, at, steps):
    """The list of the moments along the steps of element at, all of which have to be possible."""
    moments = moments_along(program, waking, steps)
    if len(moments) <= len(steps):
        raise InvalidPaper("step", (at, len(moments) - 1))
    return moments


def is_pumped(program, thing):
    """Whether any value is a pumped run of the program."""
    try:
        lets_pumped(program, thing)
    except InvalidPaper:
        return False
    return True


def pumped_out(program, thing, many):
    """The run for which a pumped run stands with each round many times."""
    if not is_pumped(program, thing):
        raise NotUsable("thing", -1)
    if not is_number(many):
        raise NotUsable("many", -1)
    stretches = [ahead + turn * many + behind for ahead, turn, behind in thing[:-1]]
    return tuple(stretches) + thing[-1:]
