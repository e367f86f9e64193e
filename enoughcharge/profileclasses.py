"""Profiles as objects."""

from enoughcharge.charges import check_charge, is_within
from enoughcharge.errors import NotUsable
from enoughcharge.kinds import is_tuple_of_numbers
from enoughcharge.profiles import outcome, profile
from enoughcharge.programchecker import lets_program
from enoughcharge.ways import ENDLESS


class Profile:
    """The profile of a program; it never changes."""

    def __init__(self, program):
        lets_program(program)
        self._told = profile(program)

    @property
    def least(self):
        """The least charge with which no ring can come, and only right answers can; None if there is none."""
        ring, rows = self._told
        widths = [width for _, right, width in rows if not right]
        if ring is not None:
            widths = widths + [ring]
        if ENDLESS in widths:
            return None
        return max([int(width + 1) for width in widths], default=0)

    def __getitem__(self, at):
        check_charge(at)
        answers, ring = outcome(self._told, at)
        return (tuple([answer for answer, _ in answers]), ring)

    def __iter__(self):
        raise TypeError("a Profile is not iterated over")

    def __call__(self, answer):
        row = row_of(self._told, answer)
        if row is None:
            raise NotUsable("answer", -1)
        return (row[1], row[2])

    def __contains__(self, x):
        return row_of(self._told, x) is not None

    def __len__(self):
        return len(self._told[1])

    def __eq__(self, other):
        return isinstance(other, Profile) and self._told == other._told

    def __le__(self, other):
        if not isinstance(other, Profile):
            return NotImplemented
        return is_part(self._told, other._told)

    def __ge__(self, other):
        if not isinstance(other, Profile):
            return NotImplemented
        return is_part(other._told, self._told)


def row_of(told, thing):
    """The row of any value that is an answer of a profile, None of any other."""
    if not is_tuple_of_numbers(thing):
        return None
    for row in told[1]:
        if row[0] == thing:
            return row
    return None


def is_part(told, other):
    """Whether all that can come with each charge by a profile can come by the other one."""
    widths = {answer: width for answer, _, width in other[1]}
    answers_come = all([is_within(width, widths.get(answer)) for answer, _, width in told[1]])
    return answers_come and is_within(told[0], other[0])
