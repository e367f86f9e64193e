"""What papers with tables of moments have to keep, checked without searching."""

from enoughcharge.errors import InvalidPaper
from enoughcharge.kinds import is_number, is_tuple_of_tuples
from enoughcharge.moments import first_moment, is_moment, possible_steps, stepped, woken
from enoughcharge.programparts import cost_at


def is_table(thing, many):
    """Whether any value is a tuple of tuples of any value and so many numbers."""
    return is_tuple_of_tuples(thing) and all([has_numbers(row[1:], many) for row in thing])


def has_numbers(things, many):
    """Whether these are just so many values, and all of them numbers."""
    return len(things) == many and all([is_number(thing) for thing in things])


def check_tables(program, wakings, tables):
    """Raise the first error of the wakings, any values, and of those that each table has as its moments."""
    for row, waking in enumerate(wakings):
        if not is_next_moment(program, wakings, row):
            raise InvalidPaper("row", row)
        moments = tables[row]
        for at in range(len(moments)):
            if not is_next_moment(program, moments, at):
                raise InvalidPaper("table", (row, at))
        if waking not in moments:
            raise InvalidPaper("start", row)
    if first_moment(program) not in wakings:
        raise InvalidPaper("first", -1)


def is_next_moment(program, things, at):
    """Whether the value at an index is a moment, and greater than the one ahead of it, which is a moment."""
    return is_moment(program, things[at]) and (at == 0 or things[at - 1] < things[at])


def steps_hold(program, charge, bounds, moment):
    """Whether each step of a moment leads to one of these, with a bound that is great enough."""
    least = min(int(bounds[moment] + cost_at(program, moment[1])), charge)
    return all([bounds.get(after, -1) >= least for after in moments_next(program, moment)])


def check_pair(program, charge, bounds, wakings, moment, at):
    """Raise the first error of a moment of a table with these bounds, where a fall leads to any of these wakings."""
    if not steps_hold(program, charge, bounds, moment):
        raise InvalidPaper("step", at)
    after = waking_behind(program, charge, moment, bounds[moment])
    if after is not None and after not in wakings:
        raise InvalidPaper("fall", at)


def moments_next(program, moment):
    """The list of the moments after the possible steps."""
    return [stepped(program, moment, step) for step in possible_steps(program, moment)]


def waking_behind(program, charge, moment, bound):
    """The waking to which a fall leads where so much is spent, None if no fall can come there with the charge."""
    due = cost_at(program, moment[1])
    if due == 0 or due + bound <= charge:
        return None
    return woken(program, moment)
