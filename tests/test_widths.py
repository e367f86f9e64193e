"""[29]: widths as values."""

import inspect

from enoughcharge.errors import NotUsable
from enoughcharge.programclasses import Program
from enoughcharge.widths import Width
from tests.samples import ANYTHING, COUNT, NEITHER, SIXTY, Checks

NUMBERS = (0, 1, 2, 9, 10, SIXTY, SIXTY + 1, None)


def rank(number):
    """Where a number stands among the others, an endless one above all."""
    return (number is None, number or 0)


class WidthTest(Checks):
    def not_usable(self, word, function, *given, **named):
        self.refused(NotUsable, {"word": word, "at": -1}, function, *given, **named)

    def is_width(self, got, number):
        self.assertIs(got.__class__, Width)
        self.same(got.number, number)

    def test_number(self):
        for number in NUMBERS:
            self.is_width(Width(number), number)
            self.is_width(Width(number=number), number)
        self.is_width(Width(), None)

    def test_what_is_no_number(self):
        for thing in NEITHER + ("0", "endless", (0,), [0], (), COUNT, -SIXTY):
            if thing is not None:
                self.not_usable("number", Width, thing)
        with self.assertRaises(NotUsable):
            Width(Width(3))

    def test_number_cannot_be_assigned(self):
        width = Width(3)
        with self.assertRaises(AttributeError):
            width.number = 4
        self.is_width(width, 3)

    def test_comparisons(self):
        for low in NUMBERS:
            for high in NUMBERS:
                one, other = Width(low), Width(high)
                self.assertIs(one == other, low == high)
                self.assertIs(one != other, low != high)
                self.assertIs(one <= other, rank(low) <= rank(high))
                self.assertIs(one >= other, rank(low) >= rank(high))
                self.assertIs(one.__le__(other), rank(low) <= rank(high))
                self.assertIs(one.__ge__(other), rank(low) >= rank(high))

    def test_only_widths_are_compared(self):
        for width in (Width(3), Width()):
            for thing in (3, None, True, "endless", (), Program(*COUNT)):
                with self.assertRaises(TypeError):
                    width <= thing
                with self.assertRaises(TypeError):
                    width >= thing

    def test_equal_to_no_other_value(self):
        for width in (Width(0), Width(1), Width()):
            for thing in ANYTHING + ("endless", object(), Program(*COUNT), (Width(1),)):
                self.assertIs(width == thing, False)
                self.assertIs(thing == width, False)
                self.assertIs(width != thing, True)

    def test_sums_from_both_sides(self):
        for number in NUMBERS:
            for more in (0, 1, 7, SIXTY):
                wanted = None if number is None else number + more
                width = Width(number)
                self.is_width(width + more, wanted)
                self.is_width(more + width, wanted)
                self.same(width.number, number)
                width += more
                self.is_width(width, wanted)

    def test_sums_with_what_is_no_number(self):
        for width in (Width(3), Width()):
            for thing in NEITHER + ("1", (1,), [1], (), "", -SIXTY):
                self.not_usable("other", lambda other, one=width: one + other, thing)
                self.not_usable("other", lambda other, one=width: other + one, thing)
            for other in (Width(3), Width(), Program(*COUNT)):
                with self.assertRaises(NotUsable) as caught:
                    width + other
                self.same(vars(caught.exception), {"word": "other", "at": -1})

    def test_lesser_and_greater(self):
        for low in NUMBERS:
            for high in NUMBERS:
                one, other = Width(low), Width(high)
                self.is_width(one & other, min(low, high, key=rank))
                self.is_width(one | other, max(low, high, key=rank))
                self.same((one.number, other.number), (low, high))

    def test_lesser_and_greater_of_other_values(self):
        for width in (Width(3), Width(0), Width()):
            for thing in NEITHER + (0, 3, SIXTY, "1", (1,), (), "endless"):
                self.not_usable("other", lambda other, one=width: one & other, thing)
                self.not_usable("other", lambda other, one=width: one | other, thing)

    def test_truth(self):
        for number in NUMBERS:
            self.assertIs(bool(Width(number)), number != 0)

    def test_text(self):
        for number in NUMBERS[:-1]:
            self.same(str(Width(number)), str(number))
        self.same(str(Width()), "endless")
        self.assertEqual(str(Width(10 ** 5000)), "1" + "0" * 5000)

    def test_methods_are_its_own(self):
        for name in ("__init__", "__eq__", "__le__", "__ge__", "__add__", "__radd__", "__and__", "__or__", "__bool__", "__str__"):
            self.assertTrue(inspect.isfunction(vars(Width)[name]))
        self.assertIsInstance(vars(Width)["number"], property)
