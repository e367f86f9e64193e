"""Machines that are led again by their logs."""

from enoughcharge.errors import NotUsable
from enoughcharge.events import has_log_form
from enoughcharge.kinds import is_program
from enoughcharge.machines import Machine


def is_log(thing):
    """Whether any value is a log by its form; its events need not be possible."""
    return has_log_form(thing) and is_program(thing[0][1])


def replayed(log):
    """A new machine after the events of a log."""
    if not is_log(log):
        raise NotUsable("log", -1)
    _, program, charge = log[0]
    machine = Machine(program, charge)
    machine.follow(log[1:], False)
    return machine
