"""The sets of kept cells that do if they are saved instead."""

from enoughcharge.charges import check_charge
from enoughcharge.doings import does, sets_of
from enoughcharge.errors import NotUsable
from enoughcharge.kinds import is_number
from enoughcharge.programchanges import with_cost, with_kind
from enoughcharge.programparts import cells_of


def saving_sets(program, charge, price):
    """The ascending tuple of all sets of names of kept cells that do with the charge, at this price for each mark."""
    check_charge(charge)
    if not is_number(price):
        raise NotUsable("price", -1)
    return tuple([names for names in sets_of(cells_of(program, "kept")) if does(saving(program, names, price), charge)])


def saving(program, names, price):
    """The program in which these cells are saved, and each mark, on or off, costs the price more for each of them."""
    for name in names:
        program = with_kind(program, name, "saved")
    cells, code, told = program
    return (cells, tuple([with_mark_cost(instruction, price * len(names)) for instruction in code]), told)


def with_mark_cost(instruction, more):
    """A mark, on or off, with a cost that is greater by more; any other instruction as it is."""
    return with_cost(instruction, more) if instruction[0] in ("mark", "off") else instruction
