"""Moments of programs, the steps between them, and their wakings."""

from enoughcharge.errors import NotUsable
from enoughcharge.programparts import are_values, cell_index, cell_of, is_place
from enoughcharge.workings import table_of, tested, worked_out


def first_moment(program):
    """The moment of place 0 with all starts."""
    values = tuple([cell[3] for cell in program[0]])
    return ((0, saved_values(program, values)), 0, values)


def saved_cells(program):
    """The tuple of the cells that are saved."""
    return tuple([cell for cell in program[0] if cell[1] == "saved"])


def saved_values(program, values):
    """The values of the cells that are saved, among the values of all cells."""
    return tuple([value for cell, value in zip(program[0], values) if cell[1] == "saved"])


def is_moment(program, thing):
    """Whether any value is a moment of the program by its form."""
    if not isinstance(thing, tuple) or len(thing) != 3:
        return False
    copy, place, values = thing
    if not isinstance(copy, tuple) or len(copy) != 2:
        return False
    if not is_place(program, copy[0]) or not are_values(saved_cells(program), copy[1]):
        return False
    return is_place(program, place) and are_values(program[0], values)


def check_moment(program, moment):
    """Raise the error for any value that is no moment."""
    if not is_moment(program, moment):
        raise NotUsable("moment", -1)


def steps_for(program, moment):
    """The set of the steps that are possible at the moment."""
    check_moment(program, moment)
    return possible_steps(program, moment)


def possible_steps(program, moment):
    """The set of the steps that are possible at the moment, without any check."""
    instruction = program[1][moment[1]]
    if instruction[0] == "end":
        return ()
    if instruction[0] == "ask":
        return tuple([(value,) for value in range(cell_of(program, instruction[1])[2] + 1)])
    return ((),)


def allows(program, moment, step):
    """Whether any value is a step that is possible at the moment."""
    instruction = program[1][moment[1]]
    if instruction[0] == "end":
        return False
    if instruction[0] == "ask":
        return are_values((cell_of(program, instruction[1]),), step)
    return step == ()


def moment_after_step(program, moment, step):
    """The moment after a step."""
    check_moment(program, moment)
    if not allows(program, moment, step):
        raise NotUsable("step", -1)
    return stepped(program, moment, step)


def stepped(program, moment, step):
    """The moment after a step that is possible, without any check."""
    copy, place, values = moment
    instruction = program[1][place]
    if instruction[0] == "mark":
        return ((place + 1, saved_values(program, values)), place + 1, values)
    if instruction[0] == "ask":
        return (copy, place + 1, with_value(program, values, instruction[1], step[0]))
    table = table_of(program[0], values)
    if instruction[0] == "set":
        top = cell_of(program, instruction[1])[2]
        value = worked_out(instruction[2], table) % (top + 1)
        return (copy, place + 1, with_value(program, values, instruction[1], value))
    return (copy, place_after(instruction, place, table), values)


def with_value(program, values, name, value):
    """The values of the cells with this value of the cell of this name."""
    at = cell_index(program, name)
    return values[:at] + (value,) + values[at + 1:]


def place_after(instruction, place, table):
    """Where it goes on behind an instruction that changes no cell."""
    if instruction[0] == "jump":
        return instruction[1]
    if instruction[0] == "unless" and not tested(instruction[1], table):
        return instruction[2]
    return place + 1


def waking_of(program, moment):
    """The waking to which a fall takes the moment."""
    check_moment(program, moment)
    return woken(program, moment)


def woken(program, moment):
    """The waking to which a fall takes the moment, without any check."""
    copy, _, values = moment
    saved = table_of(saved_cells(program), copy[1])
    return (copy, copy[0], tuple([value_woken(cell, value, saved) for cell, value in zip(program[0], values)]))


def value_woken(cell, value, saved):
    """The value of a cell after a fall; saved has the values of the copy."""
    name, kind, _, start = cell
    if kind == "quick":
        return start
    if kind == "saved":
        return saved[name]
    return value


def is_over(program, moment):
    """Whether the moment is over."""
    check_moment(program, moment)
    return program[1][moment[1]][0] == "end"


def answer_of(program, moment):
    """The answer of the moment, None if it is not over."""
    check_moment(program, moment)
    return answered(program, moment)


def answered(program, moment):
    """The answer of the moment, None if it is not over, without any check."""
    if program[1][moment[1]][0] != "end":
        return None
    table = table_of(program[0], moment[2])
    return tuple([table[name] for name in program[2]])
