"""Whether papers keep what the document says of them, read off its sentences."""

from enoughcharge.moments import first_moment, is_moment
from tests.search import Search


def steps_of(search, moment):
    """The moments after the possible steps; also for a moment that the search has not met."""
    if moment not in search.steps:
        search.learn(moment)
    return search.steps[moment].values()


def keeps_bounds(search, charge, table, moment):
    """Whether each step of a moment leads to one of the table with a bound that is great enough."""
    bounds = {entry[0]: entry[1] for entry in table}
    for after in steps_of(search, moment):
        if after not in bounds or bounds[after] < min(charge, bounds[moment] + search.dues[moment]):
            return False
    return True


def waking_behind(search, charge, moment, bound):
    """The waking to which a fall that can come leads, or None."""
    steps_of(search, moment)
    due = search.dues[moment]
    return search.back[moment] if due and due + bound > charge else None


def is_table_set(program, wakings, tables):
    """Whether wakings and tables are moments, ascending, each waking is in its own table, and the first one is there."""
    things = [wakings] + [[entry[0] for entry in table] for table in tables]
    if not all(is_moment(program, moment) for moments in things for moment in moments):
        return False
    if not all(list(moments) == sorted(set(moments)) for moments in things):
        return False
    inside = all(waking in [entry[0] for entry in table] for waking, table in zip(wakings, tables))
    return inside and first_moment(program) in wakings


def numbers_fault(program, charge, rows):
    """What the rows of a "numbers" paper do not keep, None if they keep all."""
    search = Search(program, 0)
    numbers = {waking: number for waking, number, _ in rows}
    if not is_table_set(program, [row[0] for row in rows], [row[2] for row in rows]):
        return "tables"
    for waking, number, table in rows:
        for moment, bound in table:
            if not keeps_bounds(search, charge, table, moment):
                return "step"
            after = waking_behind(search, charge, moment, bound)
            if after is not None and numbers.get(after, number) >= number:
                return "fall"
    return None
