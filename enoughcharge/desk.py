"""A desk, at which a machine is led by rows of text."""

from enoughcharge.errors import InvalidRow, InvalidText, NotUsable
from enoughcharge.eventreadings import read_event, read_log
from enoughcharge.eventtexts import event_line
from enoughcharge.kinds import is_name
from enoughcharge.machines import Machine
from enoughcharge.programtexts import number_text, program_text, step_text


class Desk:
    """A desk with a machine, at first with none."""

    def __init__(self):
        self._machine = None
        # Each call is finished when it ends, also by an error, so no tally can tell two numbers.
        self._calls = 0

    def say(self, row):
        """The answer to a row."""
        self._calls = self._calls + 1
        if not isinstance(row, str):
            raise NotUsable("row", -1)
        first = first_element(row)
        if first is not None:
            _, program, charge = first
            self._machine = Machine(program, charge)
            return "ok"
        if self._machine is None:
            raise InvalidRow(row)
        return answer_to_row(self._machine, row)

    def tally(self):
        """The numbers of started and of finished calls of say."""
        return (self._calls, self._calls)


def first_element(row):
    """The first element of a log whose lines a row has and no others, None for any other row."""
    try:
        log = read_log(row.split("\n"))
    except InvalidText:
        return None
    return log[0] if len(log) == 1 else None


def event_in(row):
    """The event that a row writes, None if it writes none."""
    try:
        return read_event(row)
    except InvalidText:
        return None


def or_dash(thing):
    """A number, or - for None."""
    return "-" if thing is None else number_text(thing)


def spaced(words):
    """Words with single spaces between, - for none."""
    return " ".join(words) if words else "-"


def slashed(lines):
    """Lines with slashes between, - for none."""
    return " / ".join(lines) if lines else "-"


def answers_told(answers):
    """The values of each answer, with commas between and in brackets."""
    lists = [",".join([number_text(value) for value in answer]) for answer in answers]
    return spaced([f"({values})" for values in lists])


def undo_told(machine):
    """Take back the last event; its line."""
    return event_line(machine.undo())


def events_told(machine):
    """The number of events."""
    return number_text(len(machine))


def log_told(machine):
    """The lines of the events."""
    return str(machine)


def charge_told(machine):
    """The charge."""
    return or_dash(machine.charge_now)


def spent_told(machine):
    """What is spent."""
    return or_dash(machine.spent_now)


def width_told(machine):
    """The width of a fall here."""
    return or_dash(machine.width_here)


def left_told(machine):
    """The greatest number of further falls."""
    return or_dash(machine.falls_left)


def can_told(machine):
    """Whether a fall can come."""
    return "yes" if machine.can_fall else "no"


def place_told(machine):
    """The place."""
    return or_dash(machine.moment_now[1])


def steps_told(machine):
    """The steps that are possible."""
    steps = machine.steps_now
    return spaced([step_text(step, "-") for step in steps]) if steps else "none"


def left_answers_told(machine):
    """The answers that can still come."""
    return answers_told(machine.answers_left)


def left_wrong_told(machine):
    """The wrong answers that can still come."""
    return answers_told(machine.wrong_left)


def falls_told(machine):
    """The number of falls so far."""
    return number_text(len(machine.run_now) - 1)


def cells_told(machine):
    """The value of each cell."""
    return spaced([f"{name}@{number_text(machine[name])}" for name in machine])


def table_told(machine):
    """The rows of the table."""
    return slashed(machine.table())


def program_told(machine):
    """The lines of the program as it is now."""
    return slashed(program_text(machine.program_now).split("\n"))


ROWS = {
    "undo": undo_told,
    "events": events_told,
    "log": log_told,
    "charge": charge_told,
    "spent": spent_told,
    "width": width_told,
    "left": left_told,
    "can": can_told,
    "place": place_told,
    "steps": steps_told,
    "answers": left_answers_told,
    "wrong": left_wrong_told,
    "falls": falls_told,
    "cells": cells_told,
    "table": table_told,
    "program": program_told,
}


def answer_to_row(machine, row):
    """The answer of a machine to a row that makes no new one."""
    event = event_in(row)
    if event is not None:
        return or_dash(machine.go(event))
    if row in ROWS:
        action = ROWS[row]
        return action(machine)
    word, _, rest = row.partition(" ")
    if word == "bars":
        return barred_told(machine, row, event_in(rest))
    if word == "cell" and is_name(rest):
        return or_dash(machine[rest])
    if word == "since" and is_name(rest):
        return or_dash(machine.falls_since(rest))
    raise InvalidRow(row)


def barred_told(machine, row, event):
    """Why the event of a row is not possible; InvalidRow if the row has none."""
    if event is None:
        raise InvalidRow(row)
    reason = machine.barred(event)
    return "-" if reason is None else reason
