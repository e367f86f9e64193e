"""Programs that are alike."""

from enoughcharge.charges import check_charge
from enoughcharge.errors import NotUsable
from enoughcharge.kinds import is_program
from enoughcharge.profiles import criticals, outcome, profile


def are_alike(program, other, charge):
    """Whether two programs are alike at the charge."""
    check_other(program, other)
    check_charge(charge)
    return outcome(profile(program), charge) == outcome(profile(other), charge)


def parting_charges(program, other):
    """The set of those charges, among 0 and the critical ones of both programs, at which they are not alike."""
    check_other(program, other)
    told, other_told = profile(program), profile(other)
    charges = sorted(set([0] + criticals(told) + criticals(other_told)))
    return tuple([charge for charge in charges if outcome(told, charge) != outcome(other_told, charge)])


def are_alike_always(program, other):
    """Whether two programs are alike at each charge."""
    return parting_charges(program, other) == ()


def check_other(program, other):
    """Raise the error for any value that is no program with the same told names."""
    if not is_program(other) or other[2] != program[2]:
        raise NotUsable("other", -1)
