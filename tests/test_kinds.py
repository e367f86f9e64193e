"""[2], [3], [6], [11]: what any value is."""

from enoughcharge import kinds
from tests.samples import ANYTHING, COUNT, LATE, LOOP, MIXED, NOTHING, SIXTY, TWICE, Checks, negated, nested

# For each function what it accepts and what it does not accept.
INTEGERS = (0, 1, -1, 7, SIXTY, -SIXTY)
NUMBERS = (0, 1, 7, SIXTY)
NO_NUMBERS = (True, False, None, -1, -SIXTY, "1", "", (1,), [1], ())
NAMES = ("a", "z", "n", "abcdefgh", "zzzzzzzz", "set", "mark", "cell", "told", "plus", "not", "quick", "end")
NO_NAMES = ("", "abcdefghi", "A", "aB", "a1", "1", "a b", " a", "a ", "a\n", "\n", "a_", "-", 0, None, True, ("a",), ["a"])
CELLS = (("a", "quick", 0, 0), ("kept", "saved", 3, 3), ("abcdefgh", "kept", SIXTY, 0), ("n", "kept", SIXTY, SIXTY))
NO_CELLS = (
    (), ("a",), ("a", "quick", 0), ("a", "quick", 1, 0, 0), ["a", "quick", 1, 0], ("A", "quick", 1, 0),
    ("", "quick", 1, 0), (0, "quick", 1, 0), ("a", "slow", 1, 0), ("a", "Quick", 1, 0), ("a", None, 1, 0),
    ("a", ["quick"], 1, 0), ("a", "quick", 1, 2), ("a", "quick", True, 0), ("a", "quick", 1, False),
    ("a", "quick", -1, -1), ("a", "quick", 1, -1), ("a", "quick", "1", 0), ("a", "quick", 1, None), "cell", None,
    ("quick", "a", 1, 0),
)
EXPRESSIONS = (
    0, 7, SIXTY, "n", "plus", ("plus", 1, 2), ("minus", "n", 1), ("times", "plus", "times"),
    ("plus", ("minus", 1, "a"), ("times", ("plus", 1, 1), 2)), nested("minus", "n", 30), nested("times", SIXTY, 30),
)
NO_EXPRESSIONS = (
    -1, True, False, None, "", "N", "ninechars", (), ("plus",), ("plus", 1), ("plus", 1, 2, 3), ["plus", 1, 2],
    ("plus", 1, -1), ("plus", True, 1), ("plus", 1, False), ("plus", [1], 1), ("less", 1, 2), ("equal", 1, 2),
    ("not", 1), ("Plus", 1, 2), ("divide", 1, 2), (1, 2, 3), (("plus",), 1, 2), ("plus", ("less", 1, 2), 1),
    ("plus", 1, ()), nested("plus", None, 30), nested("plus", ("less", 1, 2), 30), ("n",), (1,), (["plus"], 1, 2),
)
TESTS = (
    ("less", 1, 2), ("equal", "n", "n"), ("not", ("less", "n", 1)), ("less", ("plus", 1, "n"), ("times", 2, 3)),
    ("equal", "not", "less"), negated(("equal", 1, 2), 30), ("less", nested("plus", "n", 30), 0),
)
NO_TESTS = (
    0, "n", None, True, (), ("less",), ("less", 1), ("less", 1, 2, 3), ["less", 1, 2], ("less", 1, -1),
    ("less", True, 1), ("less", 1, True), ("not",), ("not", 1), ("not", "n"), ("not", True), ("not", ("plus", 1, 2)),
    ("not", ("less", 1, 2), ("less", 1, 2)), ("plus", 1, 2), ("more", 1, 2), ("less", ("less", 1, 2), 1),
    ("less", 1, ("not", ("less", 1, 2))), ("less", ("less", 1, 2)), ("equal", ("less", 1, 2)), ["not", ("less", 1, 2)],
    negated(1, 30), (["not"], ("less", 1, 2)), (0, 1, 2), ("not", ["less", 1, 2]),
)
INSTRUCTIONS = (
    ("set", "n", 0, 1), ("set", "set", ("plus", "set", "n"), SIXTY), ("ask", "n", 1), ("ask", "mark", 9),
    ("jump", 0, 1), ("jump", SIXTY, 1), ("unless", ("less", 1, 2), 0, 1), ("unless", ("not", ("less", 1, 2)), 99, 1),
    ("mark", 1), ("mark", SIXTY), ("off", 1), ("end",),
)
NO_INSTRUCTIONS = (
    (), "end", ["end"], ("end", 1), ("end", ()), ("stop",), ("End",), (None,), (0,), (["end"],), (("end",),),
    ("set", "n", 0), ("set", "n", 0, 1, 1), ("set", "n", 0, 0), ("set", "n", 0, True), ("set", "n", 0, -1),
    ("set", "n", -1, 1), ("set", "n", True, 1), ("set", "n", ("less", 1, 2), 1), ("set", "N", 0, 1), ("set", 0, 0, 1),
    ("set", ("n",), 0, 1), ("set", None, 0, 1), ("ask", "n"), ("ask", "n", 0), ("ask", "n", "1"), ("ask", 0, 1),
    ("ask", "", 1), ("ask", "n", 1, 1), ("jump", 0), ("jump", -1, 1), ("jump", True, 1), ("jump", "n", 1),
    ("jump", 0, 0), ("jump", 0, 1, 1), ("unless", ("less", 1, 2), 0), ("unless", ("less", 1, 2), 0, 0),
    ("unless", ("less", 1, 2), -1, 1), ("unless", ("less", 1, 2), False, 1), ("unless", 1, 0, 1), ("unless", "n", 0, 1),
    ("unless", ("plus", 1, 2), 0, 1), ("unless", 0, ("less", 1, 2), 1), ("mark",), ("mark", 0), ("mark", True),
    ("mark", -1), ("mark", 1, 1), ("off",), ("off", 0), ("off", None), ("off", 1, 1), ["mark", 1], None, 0, True,
)
STEPS = ((), (0,), (3,), (SIXTY,))
NO_STEPS = (None, True, 0, "", "()", [], [0], (-1,), (True,), (False,), (None,), ("1",), ((),), (0, 0), ([],))
STRETCHES = ((), ((),), ((0,),), ((), (1,), ()), ((),) * 500)
NO_STRETCHES = (None, 0, "", [], [()], ([],), (0,), ((), 0), ((-1,),), ((), (True,)), ((1, 1),), (((),),), ((0,), None))
PROGRAMS = (COUNT, TWICE, LATE, LOOP, NOTHING, MIXED)
NO_PROGRAMS = (
    (), (1, 2, 3), COUNT[:2], COUNT + ((),), list(COUNT), ([], (("end",),), ()), ((), [("end",)], ()),
    ((), (("end",),), []), ((), (), ()), None, "program", 3, ((), (("mark", 1),), ()), (COUNT[0], COUNT[1], ("m",)),
    (COUNT[0] * 2, COUNT[1], ()), ((), COUNT[1], ()), (TWICE[0], TWICE[1], ("q",)), (TWICE[0], TWICE[1], ("x", "x")),
    (TWICE[0][::-1], TWICE[1], ()), ((("n", "kept", 3, 4),), COUNT[1], ()),
)

CASES = (
    (kinds.is_integer, INTEGERS, (True, False, None, "1", "", (), (1,), [1])),
    (kinds.is_number, NUMBERS, NO_NUMBERS),
    (kinds.is_name, NAMES, NO_NAMES),
    (kinds.is_cell, CELLS, NO_CELLS),
    (kinds.is_expression, EXPRESSIONS, NO_EXPRESSIONS),
    (kinds.is_test, TESTS, NO_TESTS),
    (kinds.is_instruction, INSTRUCTIONS, NO_INSTRUCTIONS),
    (kinds.is_program, PROGRAMS, NO_PROGRAMS),
    (kinds.is_step, STEPS, NO_STEPS),
    (kinds.is_stretch, STRETCHES, NO_STRETCHES),
)


class KindTest(Checks):
    def test_what_is_accepted(self):
        for function, accepted, _ in CASES:
            for thing in accepted:
                with self.subTest(function=function.__name__, thing=thing):
                    self.assertIs(function(thing), True)

    def test_what_is_not_accepted(self):
        for function, _, refused in CASES:
            for thing in refused:
                with self.subTest(function=function.__name__, thing=thing):
                    self.assertIs(function(thing), False)

    def test_by_name_and_for_any_value(self):
        for function, accepted, _ in CASES:
            for thing in ANYTHING + accepted:
                self.assertIs(function(thing=thing), function(thing))
                self.assertIn(function(thing), (True, False))

    def test_lists_in_place_of_tuples(self):
        for function, accepted, _ in CASES[3:]:
            for thing in accepted:
                if isinstance(thing, tuple):
                    self.assertIs(function(list(thing)), False)

    def test_each_value_of_an_instruction_spoilt(self):
        for instruction in INSTRUCTIONS:
            for at in range(len(instruction)):
                for wrong in (None, True, -1, [], ()):
                    spoilt = instruction[:at] + (wrong,) + instruction[at + 1:]
                    self.assertIs(kinds.is_instruction(spoilt), False, spoilt)
