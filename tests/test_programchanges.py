"""[13], [15], [16]: changes of programs."""

from enoughcharge.errors import InvalidPaper, NotUsable
from enoughcharge.kinds import is_program
from enoughcharge.programchanges import (
    renamed, with_cell, with_costs, with_instruction, with_kind, with_marks, with_told, without_cell,
)
from tests.samples import ANYTHING, COUNT, LATE, LOOP, MIXED, NEITHER, NOTHING, SIXTY, TWICE, Checks, nested, with_changed

END = ("end",)
NAMES_OF_NONE = NEITHER + (0, "m", ("n",))
PLACES_OF_NONE = NEITHER + (4, SIXTY, (0,), "n")


class ChangeChecks(Checks):
    def not_usable(self, word, function, *given, **named):
        self.refused(NotUsable, {"word": word, "at": -1}, function, *given, **named)

    def invalid(self, word, at, function, *given, **named):
        self.refused(InvalidPaper, {"word": word, "at": at}, function, *given, **named)

    def gives(self, wanted, function, *given, **named):
        before = repr((given, named))
        got = function(*given, **named)
        self.same(got, wanted)
        self.assertTrue(is_program(got))
        self.assertEqual(repr((given, named)), before)


class WithInstructionTest(ChangeChecks):
    def test_changed(self):
        for place in range(3):
            for line in (END, ("jump", 2, 9), ("set", "n", SIXTY, SIXTY), ("set", "n", nested("plus", "n", 30), 1)):
                wanted = (COUNT[0], with_changed(COUNT[1], place, line), COUNT[2])
                self.gives(wanted, with_instruction, COUNT, place, line)
                self.gives(wanted, with_instruction, program=COUNT, place=place, instruction=line)
        self.gives((COUNT[0], COUNT[1][:3] + (("jump", 3, 1),), COUNT[2]), with_instruction, COUNT, 3, ("jump", 3, 1))
        self.gives(NOTHING, with_instruction, LOOP, 0, END)

    def test_places_that_are_none(self):
        for place in PLACES_OF_NONE:
            self.not_usable("place", with_instruction, COUNT, place, END)
            self.not_usable("place", with_instruction, COUNT, place, None)

    def test_instructions_that_are_none(self):
        for word, line in (
            ("word", None), ("word", []), ("word", ()), ("word", ["end"]), ("word", ("end", 1)), ("word", "end"),
            ("value", ("mark", 0)), ("value", ("set", "m", -1, 1)), ("cell", ("set", "m", 1, 1)), ("cell", ("ask", 0, 1)),
            ("place", ("jump", 4, 1)), ("place", ("jump", True, 1)),
        ):
            for place in range(4):
                self.invalid(word, place, with_instruction, COUNT, place, line)

    def test_last(self):
        for line in (("mark", 1), ("off", 1), ("set", "n", 1, 1), ("ask", "n", 1), ("unless", ("less", 1, 2), 0, 1)):
            self.invalid("last", -1, with_instruction, COUNT, 3, line)
            self.gives((COUNT[0], with_changed(COUNT[1], 2, line), COUNT[2]), with_instruction, COUNT, 2, line)


class WithCellTest(ChangeChecks):
    def test_example(self):
        cell = ("q", "kept", 2, 1)
        got = [with_cell(LATE, cell)[0], with_kind(TWICE, "q", "kept")[0][0]]
        self.same(got, [(cell, ("s", "saved", 1, 0)), ("q", "kept", 1, 0)])
        self.invalid("cell", 1, without_cell, TWICE, "q")

    def test_in_the_order_of_the_names(self):
        for name, at in (("a", 0), ("kepa", 0), ("kept", None), ("kepta", 1), ("l", 1), ("quick", None), ("sa", 2),
                         ("se", 2), ("set", None), ("seta", 3), ("z", 3)):
            cell = (name, "quick", SIXTY, 5)
            if at is None:
                self.invalid("cell", 3, with_cell, MIXED, cell)
            else:
                wanted = (MIXED[0][:at] + (cell,) + MIXED[0][at:], MIXED[1], MIXED[2])
                self.gives(wanted, with_cell, MIXED, cell)
                self.gives(wanted, with_cell, program=MIXED, cell=cell)
        self.gives(((("a", "kept", 0, 0),), LOOP[1], ()), with_cell, LOOP, ("a", "kept", 0, 0))

    def test_cells_that_are_none_in_the_order_of_their_names(self):
        for name, at in (("a", 0), ("l", 1), ("r", 2), ("z", 3), ("set", 3), ("kept", 3)):
            for cell in ((name,), (name, "slow", 1, 0), (name, "kept", True, 0), (name, "kept", 1), (name, "kept", 1, 0, 0)):
                self.invalid("cell", at, with_cell, MIXED, cell)
            if at < 3 or name == "z":
                self.invalid("start", at, with_cell, MIXED, (name, "kept", 1, 2))

    def test_what_begins_with_no_name_is_put_last(self):
        for cell in NEITHER + (0, "a", (), ["a", "kept", 1, 0], ("A", "kept", 1, 0), (0, "kept", 1, 0), (["a"], 1),
                               ("", "kept", 1, 0), ("ninechars", "kept", 1, 0), ((), 1), (("a",), "kept", 1, 0)):
            self.invalid("cell", 3, with_cell, MIXED, cell)
            self.invalid("cell", 0, with_cell, LOOP, cell)
        self.invalid("cell", 3, with_cell, MIXED, ("kept", "kept", 1, 2))


class WithoutCellTest(ChangeChecks):
    def test_without(self):
        program = (MIXED[0], (END,), ("kept",))
        self.gives((MIXED[0][:1] + MIXED[0][2:], (END,), ("kept",)), without_cell, program, "quick")
        self.gives((MIXED[0][:2], (END,), ("kept",)), without_cell, program=program, name="set")
        self.gives(((), (END,), ()), without_cell, (COUNT[0], (END,), ()), "n")

    def test_names_of_none(self):
        for name in NAMES_OF_NONE:
            self.not_usable("name", without_cell, COUNT, name)
        self.not_usable("name", without_cell, LOOP, "n")

    def test_cells_that_are_needed(self):
        self.invalid("told", -1, without_cell, (MIXED[0], (END,), ("kept",)), "kept")
        self.invalid("cell", 0, without_cell, COUNT, "n")
        self.invalid("cell", 0, without_cell, MIXED, "kept")
        self.invalid("cell", 2, without_cell, MIXED, "set")
        self.invalid("cell", 4, without_cell, MIXED, "quick")


class WithKindTest(ChangeChecks):
    def test_kinds(self):
        for at, (name, _, top, start) in enumerate(MIXED[0]):
            for kind in ("quick", "saved", "kept"):
                program = (MIXED[0], MIXED[1], ())
                wanted = (with_changed(MIXED[0], at, (name, kind, top, start)), MIXED[1], ())
                self.gives(wanted, with_kind, program, name, kind)
                self.gives(wanted, with_kind, program=program, name=name, kind=kind)
        self.gives(MIXED, with_kind, MIXED, "set", "saved")

    def test_told_cells(self):
        self.gives(((("n", "saved", 3, 0),), COUNT[1], COUNT[2]), with_kind, COUNT, "n", "saved")
        self.invalid("told", -1, with_kind, COUNT, "n", "quick")

    def test_names_and_kinds_of_none(self):
        for name in NAMES_OF_NONE:
            self.not_usable("name", with_kind, COUNT, name, "kept")
            self.not_usable("name", with_kind, COUNT, name, None)
        for kind in NEITHER + (0, "slow", ("kept",), ["kept"], "n", "mark"):
            self.not_usable("kind", with_kind, COUNT, "n", kind)


class WithMarksTest(ChangeChecks):
    PROGRAM = ((), (("off", 1), ("mark", 2), ("jump", 0, 3), ("off", 4), ("mark", 5), END), ())

    def test_example(self):
        got = [with_marks(LATE, ())[1][1], renamed(TWICE, "x", "a")[0], renamed(COUNT, "n", "m")[1][0]]
        wanted = [("off", 1), (("a", "kept", 3, 0), ("q", "quick", 1, 0)), ("unless", ("less", "m", 2), 3, 1)]
        self.same(got, wanted)

    def test_marks(self):
        for places in ((), (0,), (1,), (3, 4), (0, 1, 3, 4), (0, 4), (1, 4)):
            words = ["mark" if place in places else "off" for place in range(5)]
            code = ((words[0], 1), (words[1], 2), ("jump", 0, 3), (words[3], 4), (words[4], 5), END)
            self.gives(((), code, ()), with_marks, self.PROGRAM, places)
            self.gives(((), code, ()), with_marks, program=self.PROGRAM, places=places)
        self.gives(COUNT, with_marks, COUNT, ())

    def test_places_that_are_none(self):
        wrong = ((2,), (5,), (6,), (1, 0), (1, 1), (0, 1, 1), [1], [], (True,), (False,), (-1,), ("1",), (None,), (0, 2))
        for places in wrong + (0, 1, None, "", "1", ((),), ([],), ((1,),), (1, None)):
            self.not_usable("places", with_marks, self.PROGRAM, places)
        self.not_usable("places", with_marks, COUNT, (0,))


class WithCostsTest(ChangeChecks):
    def test_costs(self):
        for more in (0, 1, 9, SIXTY):
            code = (
                ("ask", "kept", 2 + more), ("off", 4 + more), MIXED[1][2][:3] + (1 + more,), ("mark", 3 + more),
                ("unless", MIXED[1][4][1], 1, 2 + more), ("set", "quick", 0, 9 + more), END, ("jump", 0, 5 + more),
            )
            self.gives((MIXED[0], code, MIXED[2]), with_costs, MIXED, more)
            self.gives((MIXED[0], code, MIXED[2]), with_costs, program=MIXED, more=more)

    def test_what_is_no_number(self):
        for more in NEITHER + ("1", (1,), -SIXTY, "n"):
            self.not_usable("more", with_costs, COUNT, more)


class WithToldTest(ChangeChecks):
    def test_names(self):
        for names in ((), ("kept",), ("set",), ("kept", "set")):
            self.gives((MIXED[0], MIXED[1], names), with_told, MIXED, names)
            self.gives((MIXED[0], MIXED[1], names), with_told, program=MIXED, names=names)
        self.gives(LOOP, with_told, LOOP, ())

    def test_what_is_no_set_of_names(self):
        wrong = (("quick",), ("kept", "quick"), ("set", "kept"), ("kept", "kept"), ["kept"], [], "kept", ("m",), (0,))
        for names in wrong + NEITHER + (0, ("kept", None), ("kept", ["set"]), (("kept",),)):
            self.not_usable("names", with_told, MIXED, names)
        self.not_usable("names", with_told, TWICE, ("q",))
        self.not_usable("names", with_told, TWICE, ("q", "x"))


class RenamedTest(ChangeChecks):
    CELLS = (("a", "kept", 1, 0), ("set", "saved", 2, 1), ("z", "quick", 3, 3))
    CODE = (
        ("set", "set", ("plus", "set", ("minus", "a", ("times", "set", "z"))), 1),
        ("ask", "set", 2),
        ("unless", ("not", ("less", "set", ("plus", 1, "set"))), 5, 1),
        ("unless", ("equal", "a", "set"), 5, 1),
        ("mark", 1),
        ("end",),
    )

    def code_with(self, name):
        return (
            ("set", name, ("plus", name, ("minus", "a", ("times", name, "z"))), 1),
            ("ask", name, 2),
            ("unless", ("not", ("less", name, ("plus", 1, name))), 5, 1),
            ("unless", ("equal", "a", name), 5, 1),
            ("mark", 1),
            ("end",),
        )

    def test_everywhere_and_in_order(self):
        program = (self.CELLS, self.CODE, ("a", "set"))
        for name, at in (("plus", 1), ("not", 1), ("aa", 1), ("y", 1), ("zz", 2), ("set", 1), ("less", 1), ("mark", 1)):
            rest = (self.CELLS[0], self.CELLS[2])
            cells = rest[:at] + ((name, "saved", 2, 1),) + rest[at:]
            wanted = (cells, self.code_with(name), ("a", name))
            self.gives(wanted, renamed, program, "set", name)
            self.gives(wanted, renamed, program=program, name="set", other_name=name)

    def test_ahead_of_the_others(self):
        program = ((("b", "kept", 1, 0), ("c", "saved", 2, 1)), (("set", "c", "b", 1), END), ("b", "c"))
        wanted = ((("a", "saved", 2, 1), ("b", "kept", 1, 0)), (("set", "a", "b", 1), END), ("a", "b"))
        self.gives(wanted, renamed, program, "c", "a")
        wanted = ((("c", "saved", 2, 1), ("d", "kept", 1, 0)), (("set", "c", "d", 1), END), ("c", "d"))
        self.gives(wanted, renamed, program, "b", "d")

    def test_words_stay(self):
        program = ((("plus", "kept", 1, 0),), (("set", "plus", ("plus", "plus", 1), 1), END), ())
        wanted = ((("x", "kept", 1, 0),), (("set", "x", ("plus", "x", 1), 1), END), ())
        self.gives(wanted, renamed, program, "plus", "x")
        self.gives(((("kept", "kept", 3, 0),), self_named(COUNT[1]), ("kept",)), renamed, COUNT, "n", "kept")

    def test_names_of_none(self):
        for name in NAMES_OF_NONE:
            self.not_usable("name", renamed, COUNT, name, "a")
            self.not_usable("name", renamed, COUNT, name, None)

    def test_other_names_that_are_none(self):
        for name in NEITHER + (0, "A", "a1", ("a",), "ninechars"):
            self.not_usable("other_name", renamed, COUNT, "n", name)
        self.not_usable("other_name", renamed, TWICE, "x", "q")
        self.not_usable("other_name", renamed, MIXED, "kept", "set")
        self.not_usable("other_name", renamed, MIXED, "kept", "quick")
        self.not_usable("other_name", renamed, MIXED, "set", "quick")

    def test_its_own_name(self):
        self.gives(TWICE, renamed, TWICE, "x", "x")


def self_named(code):
    """The code of COUNT with its cell called kept."""
    return (("unless", ("less", "kept", 2), 3, 1), ("set", "kept", ("plus", "kept", 1), 2)) + code[2:]


class AnyValueTest(ChangeChecks):
    def test_each_parameter(self):
        calls = (
            (with_instruction, ("place", "instruction")), (with_cell, ("cell",)), (without_cell, ("name",)),
            (with_kind, ("name", "kind")), (with_marks, ("places",)), (with_costs, ("more",)), (with_told, ("names",)),
            (renamed, ("name", "other_name")),
        )
        for function, parameters in calls:
            for thing in ANYTHING:
                for other in ANYTHING:
                    self.check_order(function, parameters, (thing, other)[:len(parameters)])

    def check_order(self, function, parameters, things):
        try:
            self.assertTrue(is_program(function(MIXED, *things)))
        except NotUsable as error:
            self.assertIn(error.word, parameters)
            self.assertEqual(error.at, -1)
        except InvalidPaper as error:
            self.assertIn(error.word, ("cell", "start", "word", "value", "place", "last", "told"))
