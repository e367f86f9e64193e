"""The checker of papers of falls."""

from enoughcharge.charges import check_charge
from enoughcharge.errors import InvalidPaper
from enoughcharge.kinds import is_number, is_tuple_of_tuples
from enoughcharge.runs import is_ring, lets_run, width_of
from enoughcharge.tables import check_tables, is_table, steps_hold, waking_behind


def lets_on(program, charge, thing):
    """Whether falls end with the charge, as an on paper shows; InvalidPaper for any value that is none."""
    check_charge(charge)
    if not isinstance(thing, tuple) or len(thing) != 2 or thing[0] not in ("ring", "numbers"):
        raise InvalidPaper("shape", -1)
    if thing[0] == "ring":
        check_ring(program, charge, thing[1])
        return False
    if not is_tuple_of_tuples(thing[1]) or not all([is_row(row) for row in thing[1]]):
        raise InvalidPaper("shape", -1)
    check_numbers(program, charge, thing[1])
    return True


def is_row(thing):
    """Whether a tuple is a triple of any value, a number and a table."""
    return len(thing) == 3 and is_number(thing[1]) and is_table(thing[2], 1)


def check_ring(program, charge, made):
    """Raise the first error of any value as a ring that can come with the charge."""
    lets_run(program, made)
    if not is_ring(program, made):
        raise InvalidPaper("ring", -1)
    if width_of(program, made) < charge:
        raise InvalidPaper("width", -1)


def check_numbers(program, charge, rows):
    """Raise the first error of the rows of a "numbers" paper."""
    check_tables(program, [row[0] for row in rows], [[pair[0] for pair in row[2]] for row in rows])
    numbers = {waking: number for waking, number, _ in rows}
    for at, (_, number, table) in enumerate(rows):
        bounds = {moment: bound for moment, bound in table}
        for index, (moment, bound) in enumerate(table):
            if not steps_hold(program, charge, bounds, moment):
                raise InvalidPaper("step", (at, index))
            after = waking_behind(program, charge, moment, bound)
            if after is not None and numbers.get(after, number) >= number:
                raise InvalidPaper("fall", (at, index))
