"""Widths as values."""

from enoughcharge.errors import NotUsable
from enoughcharge.kinds import is_number
from enoughcharge.programtexts import number_text


class Width:
    """A number, or endless; it never changes."""

    def __init__(self, number=None):
        if number is not None and not is_number(number):
            raise NotUsable("number", -1)
        self._number = number

    @property
    def number(self):
        """The number, None of an endless width."""
        return self._number

    def __eq__(self, other):
        return isinstance(other, Width) and self._number == other._number

    def __le__(self, other):
        if not isinstance(other, Width):
            return NotImplemented
        return other._number is None or (self._number is not None and self._number <= other._number)

    def __ge__(self, other):
        if not isinstance(other, Width):
            return NotImplemented
        return self._number is None or (other._number is not None and self._number >= other._number)

    def __add__(self, other):
        if not is_number(other):
            raise NotUsable("other", -1)
        return Width() if self._number is None else Width(self._number + other)

    def __radd__(self, other):
        return self + other

    def __and__(self, other):
        if not isinstance(other, Width):
            raise NotUsable("other", -1)
        return Width(self._number if self <= other else other._number)

    def __or__(self, other):
        if not isinstance(other, Width):
            raise NotUsable("other", -1)
        return Width(self._number if self >= other else other._number)

    def __bool__(self):
        return bool(self._number != 0)

    def __str__(self):
        if self._number is None:
            return "endless"
        return str(number_text(self._number))
