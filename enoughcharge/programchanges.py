"""Changes of programs: each function returns the changed program."""

from enoughcharge.errors import NotUsable
from enoughcharge.kinds import KINDS, is_ascending, is_name, is_name_set, is_number, is_tuple_of_numbers, parts_of
from enoughcharge.programchecker import lets_program
from enoughcharge.programparts import cell_index, cell_names, is_place, marks_of


def checked(program):
    """The changed program, if it is one."""
    lets_program(program)
    return program


def with_instruction(program, place, instruction):
    """The program with this instruction at the place."""
    if not is_place(program, place):
        raise NotUsable("place", -1)
    cells, code, told = program
    return checked((cells, code[:place] + (instruction,) + code[place + 1:], told))


def with_cell(program, cell):
    """The program with one cell more."""
    cells, code, told = program
    at = index_for(program, cell)
    return checked((cells[:at] + (cell,) + cells[at:], code, told))


def index_for(program, cell):
    """Where any value stands as a cell more: what has no new name is put last."""
    names = cell_names(program)
    if not isinstance(cell, tuple) or len(cell) == 0 or not is_name(cell[0]) or cell[0] in names:
        return len(names)
    return len([name for name in names if name < cell[0]])


def without_cell(program, name):
    """The program without the cell of this name."""
    at = cell_index(program, name)
    cells, code, told = program
    return checked((cells[:at] + cells[at + 1:], code, told))


def with_kind(program, name, kind):
    """The program in which the cell of this name is of this kind."""
    at = cell_index(program, name)
    if kind not in KINDS:
        raise NotUsable("kind", -1)
    cells, code, told = program
    changed = (name, kind) + cells[at][2:]
    return checked((cells[:at] + (changed,) + cells[at + 1:], code, told))


def with_marks(program, places):
    """The program in which the marks at these places are on, and all others off."""
    if not is_mark_set(program, places):
        raise NotUsable("places", -1)
    cells, code, told = program
    marks = marks_of(program)
    changed = list(code)
    for place in marks:
        changed[place] = ("mark" if place in places else "off", code[place][1])
    return (cells, tuple(changed), told)


def is_mark_set(program, thing):
    """Whether any value is a set of places of marks, on or off."""
    marks = marks_of(program)
    return is_tuple_of_numbers(thing) and all([place in marks for place in thing]) and is_ascending(thing)


def with_costs(program, more):
    """The program in which each cost, also that of a mark that is off, is greater by more."""
    if not is_number(more):
        raise NotUsable("more", -1)
    cells, code, told = program
    return (cells, tuple([with_cost(instruction, more) for instruction in code]), told)


def with_cost(instruction, more):
    """The instruction with a cost that is greater by more; an "end" has none."""
    if instruction[0] == "end":
        return instruction
    return instruction[:-1] + (instruction[-1] + more,)


def with_told(program, names):
    """The program in which these names are the told ones."""
    cells, code, told = program
    if not is_name_set(names, [cell[0] for cell in cells if cell[1] != "quick"]):
        raise NotUsable("names", -1)
    return (cells, code, names)


def renamed(program, name, other_name):
    """The program in which the cell of this name is called other_name, everywhere."""
    at = cell_index(program, name)
    names = cell_names(program)
    if not is_name(other_name) or other_name in names[:at] + names[at + 1:]:
        raise NotUsable("other_name", -1)
    cells, code, told = program
    changed = [(tree_renamed(cell[0], name, other_name),) + cell[1:] for cell in cells]
    listed = [tree_renamed(word, name, other_name) for word in told]
    lines = [instruction_renamed(instruction, name, other_name) for instruction in code]
    return (tuple(sorted(set(changed))), tuple(lines), tuple(sorted(set(listed))))


def instruction_renamed(instruction, name, other_name):
    """The instruction with the other name in place of the name."""
    naming = ("cell", "expression", "test")
    parts = parts_of(instruction)
    values = [tree_renamed(value, name, other_name) if form in naming else value for form, value in parts]
    return instruction[:1] + tuple(values)


def tree_renamed(tree, name, other_name):
    """The name, expression or test with the other name in place of the name; its words stay."""
    if isinstance(tree, tuple):
        return tree[:1] + tuple([tree_renamed(part, name, other_name) for part in tree[1:]])
    return other_name if tree == name else tree
