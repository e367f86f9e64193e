"""What values are events and logs by their form alone."""

from enoughcharge.kinds import is_ascending, is_cell, is_instruction, is_name, is_number, is_step, is_tuple_of_tuples


def is_event(thing):
    """Whether any value is an event by form."""
    if not isinstance(thing, tuple) or len(thing) != 2:
        return thing == ("fall",)
    word, value = thing
    if word == "step":
        return is_step(value)
    if word == "note":
        return is_name(value)
    return word in ("charge", "off", "on") and is_number(value)


def has_log_form(thing):
    """Whether any value is a tuple of ("machine", any value, a number) and of events by form."""
    if not is_tuple_of_tuples(thing) or len(thing) == 0 or len(thing[0]) != 3:
        return False
    word, _, charge = thing[0]
    return word == "machine" and is_number(charge) and all([is_event(event) for event in thing[1:]])


def is_written_program(thing):
    """Whether any value is a triple of cells, code and told that can be written; it need not be a program."""
    if not is_tuple_of_tuples(thing) or len(thing) != 3 or len(thing[1]) == 0:
        return False
    cells, code, told = thing
    parts_hold = all([is_cell(cell) for cell in cells]) and all([is_instruction(line) for line in code])
    return parts_hold and all([is_name(name) for name in told]) and is_ascending(told)
