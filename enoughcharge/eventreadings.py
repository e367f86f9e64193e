"""Events and logs read from lines."""

from enoughcharge.errors import InvalidText, NotUsable
from enoughcharge.programreadings import program_read, values_read

# The forms of the values behind each word.
EVENT_FORMS = {
    "step": ("step",),
    "fall": (),
    "charge": ("number",),
    "off": ("number",),
    "on": ("number",),
    "note": ("name",),
}
MACHINE_FORMS = ("number", "number")


def read_event(text):
    """The event that a string writes."""
    if not isinstance(text, str):
        raise NotUsable("text", -1)
    return event_read(text, 0)


def event_read(text, line):
    """The event that a string writes; InvalidText with this line."""
    words = text.split(" ")
    if words[0] not in EVENT_FORMS:
        raise InvalidText(line, 0)
    return (words[0],) + tuple(values_read(EVENT_FORMS[words[0]], words, line, 0))


def read_log(lines):
    """The log that a list of strings without newlines writes."""
    if not are_lines(lines):
        raise NotUsable("lines", -1)
    if len(lines) == 0:
        raise InvalidText(0, 0)
    charge, many = machine_read(lines[0])
    program = body_read(lines[1:many + 1], many)
    events = [event_read(text, line) for line, text in enumerate(lines) if line > many]
    return (("machine", program, charge),) + tuple(events)


def are_lines(thing):
    """Whether any value is a list of strings without newlines."""
    return isinstance(thing, list) and all([isinstance(line, str) and "\n" not in line for line in thing])


def machine_read(text):
    """The charge and the number of lines that the first line of a log writes."""
    words = text.split(" ")
    if words[0] != "machine":
        raise InvalidText(0, 0)
    return values_read(MACHINE_FORMS, words, 0, 0)


def body_read(lines, many):
    """The triple of cells, code and told that these lines write, of which so many should be there."""
    try:
        program = program_read("\n".join(lines))
    except InvalidText as error:
        raise InvalidText(error.line + 1, error.field) from error
    if len(lines) < many:
        raise InvalidText(len(lines) + 1, 0)
    return program
