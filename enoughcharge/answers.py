"""The answers that can come, and the widest runs to them."""

from enoughcharge.charges import check_charge
from enoughcharge.errors import NotUsable
from enoughcharge.fallmaps import fall_map, step_map
from enoughcharge.moments import answered, first_moment
from enoughcharge.programparts import are_values, cell_of
from enoughcharge.reaches import is_right, reach_of, shown_answer
from enoughcharge.ways import ENDLESS


def right_answers(program):
    """The set of the right answers."""
    return answers_among(program, step_map(program, first_moment(program)))


def answers_at(program, charge):
    """The set of the answers that can come with the charge."""
    check_charge(charge)
    return answers_among(program, fall_map(program, charge).roads)


def answers_among(program, moments):
    """The set of the answers of those of these moments that are over."""
    answers = [answered(program, moment) for moment in moments]
    return tuple(sorted(set([answer for answer in answers if answer is not None])))


def answer_width(program, answer):
    """The answer width of an answer: a number, "endless", or None if it never comes."""
    check_answer(program, answer)
    answers = reach_of(program).answers
    return answers[answer][0] if answer in answers else None


def run_to(program, answer):
    """A run to the answer of its answer width; a pumped run to a wrong one if it is "endless", None without any."""
    check_answer(program, answer)
    reach = reach_of(program)
    return shown_answer(reach, answer) if answer in reach.answers else None


def check_answer(program, answer):
    """Raise the error for any value that is no tuple with a value of each told cell."""
    if not are_values([cell_of(program, name) for name in program[2]], answer):
        raise NotUsable("answer", -1)


def least_right(program):
    """The least charge with which only right answers can come, None if there is none."""
    reach = reach_of(program)
    widths = [reach.answers[answer][0] for answer in reach.answers if not is_right(reach, answer)]
    if ENDLESS in widths:
        return None
    return max([int(width + 1) for width in widths], default=0)
