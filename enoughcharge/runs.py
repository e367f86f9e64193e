"""Runs, their wakings and their widths."""

from enoughcharge.errors import InvalidPaper, NotUsable
from enoughcharge.kinds import is_tuple_of_tuples
from enoughcharge.moments import first_moment, woken
from enoughcharge.programparts import cost_at
from enoughcharge.walks import cost_along, moments_along


def is_run(program, thing):
    """Whether any value is a run of the program."""
    try:
        lets_run(program, thing)
    except InvalidPaper:
        return False
    return True


def lets_run(program, thing):
    """The number of falls of a run; InvalidPaper for any value that is none."""
    if not is_tuple_of_tuples(thing) or len(thing) == 0:
        raise InvalidPaper("shape", -1)
    waking = first_moment(program)
    for at, stretch in enumerate(thing):
        moments = moments_along(program, waking, stretch)
        if len(moments) <= len(stretch):
            raise InvalidPaper("step", (at, len(moments) - 1))
        if at + 1 < len(thing) and cost_at(program, moments[-1][1]) == 0:
            raise InvalidPaper("fall", at)
        waking = woken(program, moments[-1])
    return len(thing) - 1


def legs_of(program, made):
    """For each stretch of a run, the triple of its waking, its last moment and what is spent then."""
    if not is_run(program, made):
        raise NotUsable("made", -1)
    return legs_along(program, made)


def legs_along(program, made):
    """What legs_of returns, without any check."""
    legs = []
    waking = first_moment(program)
    for stretch in made:
        moments = moments_along(program, waking, stretch)
        legs.append((waking, moments[-1], cost_along(program, moments)))
        waking = woken(program, moments[-1])
    return legs


def moment_after(program, made):
    """The moment after the whole run."""
    return legs_of(program, made)[-1][1]


def spent_after(program, made):
    """What is spent after the whole run."""
    return legs_of(program, made)[-1][2]


def wakings_of(program, made):
    """The tuple of the wakings of a run: the first moment, then that after each fall."""
    return tuple([leg[0] for leg in legs_of(program, made)])


def widths_of(program, made):
    """The tuple of the widths of the falls of a run, in order."""
    return tuple([spent + cost_at(program, moment[1]) - 1 for _, moment, spent in legs_of(program, made)[:-1]])


def width_of(program, made):
    """The width of a run, None if it is unbroken."""
    widths = widths_of(program, made)
    if len(widths) == 0:
        return None
    return min([int(width) for width in widths])


def is_ring(program, made):
    """Whether a run is a ring."""
    wakings = wakings_of(program, made)
    return made[-1] == () and wakings[-1] in wakings[:-1]
