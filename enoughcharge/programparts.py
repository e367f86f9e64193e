"""Parts of programs, and the values of expressions and tests."""

from enoughcharge.errors import NotUsable
from enoughcharge.kinds import KINDS, is_expression, is_number, is_test, names_in
from enoughcharge.workings import table_of, tested, worked_out


def instruction_at(program, place):
    """The instruction at a place."""
    if not is_place(program, place):
        raise NotUsable("place", -1)
    return program[1][place]


def cost_at(program, place):
    """The cost that is due at a place: 0 for an "end" and an "off"."""
    return cost_due(instruction_at(program, place))


def cost_due(instruction):
    """The cost that is due at an instruction."""
    if instruction[0] in ("end", "off"):
        return 0
    return instruction[-1]


def cell_of(program, name):
    """The cell of this name."""
    return program[0][cell_index(program, name)]


def cell_index(program, name):
    """The index of the cell of this name."""
    names = cell_names(program)
    if name not in names:
        raise NotUsable("name", -1)
    return names.index(name)


def cell_names(program):
    """The list of the names of all cells, ascending."""
    return [cell[0] for cell in program[0]]


def cells_of(program, kind):
    """The set of the names of the cells of this kind."""
    if kind not in KINDS:
        raise NotUsable("kind", -1)
    return tuple([cell[0] for cell in program[0] if cell[1] == kind])


def marks_of(program):
    """The set of the places of all marks, those that are off too."""
    return places_of(program, ("mark", "off"))


def marks_on(program):
    """The set of the places of the marks that are on."""
    return places_of(program, ("mark",))


def places_of(program, words):
    """The set of the places of the instructions with one of these words."""
    return tuple([place for place, instruction in enumerate(program[1]) if instruction[0] in words])


def value_of(program, expression, values):
    """The value of an expression with these values of the cells."""
    if not is_expression(expression) or not knows_names(program, expression):
        raise NotUsable("expression", -1)
    return worked_out(expression, checked_table(program, values))


def holds(program, test, values):
    """Whether a test holds with these values of the cells."""
    if not is_test(test) or not knows_names(program, test):
        raise NotUsable("test", -1)
    return tested(test, checked_table(program, values))


def knows_names(program, tree):
    """Whether all names in an expression or a test are names of cells."""
    names = cell_names(program)
    return all([name in names for name in names_in(tree)])


def checked_table(program, values):
    """The value of each cell by its name, if any values are values of the cells."""
    if not are_values(program[0], values):
        raise NotUsable("values", -1)
    return table_of(program[0], values)


def are_values(cells, thing):
    """Whether any value is a tuple with a value of each of these cells, in their order."""
    if not isinstance(thing, tuple) or len(thing) != len(cells):
        return False
    return all([is_number(value) and value <= cell[2] for cell, value in zip(cells, thing)])


def is_place(program, thing):
    """Whether any value is a place of the program."""
    return is_number(thing) and thing < len(program[1])
