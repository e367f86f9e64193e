"""The checker of order papers."""

from enoughcharge.charges import check_charge
from enoughcharge.errors import InvalidPaper
from enoughcharge.kinds import is_tuple_of_tuples
from enoughcharge.tables import check_pair, check_tables, is_table, moments_next


def lets_no_loop(program, charge, thing):
    """How many rows an order paper has; InvalidPaper for any value that is none."""
    check_charge(charge)
    if not is_tuple_of_tuples(thing) or not all([len(row) == 2 and is_table(row[1], 2) for row in thing]):
        raise InvalidPaper("shape", -1)
    wakings = [waking for waking, _ in thing]
    check_tables(program, wakings, [[triple[0] for triple in table] for _, table in thing])
    known = {waking: True for waking in wakings}
    for at, (_, table) in enumerate(thing):
        check_order_table(program, charge, known, at, table)
    return len(thing)


def check_order_table(program, charge, wakings, at, table):
    """Raise the first error of the triples of table at."""
    bounds = {moment: bound for moment, bound, _ in table}
    numbers = {moment: number for moment, _, number in table}
    for index, (moment, _, number) in enumerate(table):
        check_pair(program, charge, bounds, wakings, moment, (at, index))
        if not all([numbers[after] < number for after in moments_next(program, moment)]):
            raise InvalidPaper("order", (at, index))
