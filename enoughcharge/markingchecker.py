"""The checker of papers of all sets of marks."""

from enoughcharge.charges import check_charge
from enoughcharge.doings import sets_of
from enoughcharge.errors import InvalidPaper
from enoughcharge.kinds import is_tuple_of_numbers, is_tuple_of_tuples
from enoughcharge.onchecker import lets_on
from enoughcharge.programchanges import with_marks
from enoughcharge.programparts import marks_of
from enoughcharge.rightchecker import lets_right


def lets_marks(program, charge, thing):
    """The sets of marks that do with the charge, as a marks paper shows; InvalidPaper for any value that is none."""
    check_charge(charge)
    if not is_tuple_of_tuples(thing) or not all([len(row) == 3 and is_tuple_of_numbers(row[0]) for row in thing]):
        raise InvalidPaper("shape", -1)
    if [row[0] for row in thing] != sets_of(marks_of(program)):
        raise InvalidPaper("sets", -1)
    doing = []
    for at, (places, on, right) in enumerate(thing):
        marked = with_marks(program, places)
        ends = falls_told(marked, charge, on, at)
        if right_told(marked, charge, right, at) and ends:
            doing.append(places)
    return tuple(doing)


def falls_told(program, charge, on, at):
    """What the paper of falls in row at tells; InvalidPaper if it is refused."""
    try:
        return lets_on(program, charge, on)
    except InvalidPaper as error:
        raise InvalidPaper("falls", at) from error


def right_told(program, charge, right, at):
    """What the paper of answers in row at tells; InvalidPaper if it is refused."""
    try:
        return lets_right(program, charge, right)
    except InvalidPaper as error:
        raise InvalidPaper("right", at) from error
