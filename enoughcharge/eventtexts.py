"""Events and logs written as lines."""

from enoughcharge.errors import NotUsable
from enoughcharge.events import has_log_form, is_event, is_written_program
from enoughcharge.programtexts import program_text, step_text, words_text


def event_line(event):
    """The line of an event by form."""
    if not is_event(event):
        raise NotUsable("event", -1)
    if event[0] == "step":
        return words_text(("step", step_text(event[1], "-")))
    return words_text(event)


def log_lines(log):
    """The list of the lines of a log: those of its first element, then one for each event."""
    if not has_log_form(log) or not is_written_program(log[0][1]):
        raise NotUsable("log", -1)
    _, program, charge = log[0]
    lines = program_text(program).split("\n")
    return [words_text(("machine", charge, len(lines)))] + lines + [event_line(event) for event in log[1:]]
