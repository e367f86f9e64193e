"""The sets of marks that do with a charge."""

from enoughcharge.charges import check_charge
from enoughcharge.doings import does, sets_of
from enoughcharge.onpapers import on_paper
from enoughcharge.programchanges import with_marks
from enoughcharge.programparts import marks_of
from enoughcharge.rightpapers import right_paper


def doing_sets(program, charge):
    """The ascending tuple of all sets of marks that do with the charge."""
    check_charge(charge)
    return tuple([places for places in sets_of(marks_of(program)) if does(with_marks(program, places), charge)])


def least_sets(program, charge):
    """Those sets of marks that do with the charge in which no other one lies that does."""
    doing = doing_sets(program, charge)
    return tuple([places for places in doing if not any([lies_in(other, places) for other in doing])])


def lies_in(other, places):
    """Whether another set of marks lies in this one."""
    return other != places and all([place in places for place in other])


def marks_paper(program, charge):
    """The tuple of the triples of a set of marks, and of the papers of falls and of answers with these marks."""
    return tuple([papers_of(program, places, charge) for places in sets_of(marks_of(program))])


def papers_of(program, places, charge):
    """The triple of a set of marks and of both papers of the program with these marks."""
    marked = with_marks(program, places)
    return (places, on_paper(marked, charge), right_paper(marked, charge))
