"""The checker of programs."""

from enoughcharge.errors import InvalidPaper
from enoughcharge.kinds import program_fault


def lets_program(thing):
    """How many instructions a program has; InvalidPaper for any value that is none."""
    fault = program_fault(thing)
    if fault is not None:
        word, at = fault
        raise InvalidPaper(word, at)
    return len(thing[1])
