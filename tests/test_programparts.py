"""[13], [14]: parts of programs."""

from enoughcharge.errors import NotUsable
from enoughcharge.programparts import (
    cell_of, cells_of, cost_at, holds, instruction_at, marks_of, marks_on, value_of,
)
from tests.samples import ANYTHING, COUNT, LATE, LOOP, MIXED, NEITHER, NOTHING, SIXTY, TWICE, Checks, negated, nested

BIG = ((("a", "kept", SIXTY, 0), ("plus", "quick", SIXTY, 0)), (("end",),), ())


class ProgramPartsTest(Checks):
    def not_usable(self, word, function, *given, **named):
        self.refused(NotUsable, {"word": word, "at": -1}, function, *given, **named)

    def test_examples(self):
        self.same([cost_at(COUNT, 1), cells_of(TWICE, "kept"), marks_of(LATE)], [2, ("x",), (1,)])
        value = value_of(COUNT, ("minus", "n", ("times", 2, "n")), (3,))
        self.same([value, holds(COUNT, ("not", ("less", "n", 2)), (3,))], [-3, True])

    def test_instruction_at(self):
        for program in (COUNT, TWICE, LATE, LOOP, NOTHING, MIXED):
            for place, instruction in enumerate(program[1]):
                self.same(instruction_at(program, place), instruction)
                self.same(instruction_at(program=program, place=place), instruction)

    def test_cost_at(self):
        self.same([cost_at(MIXED, place) for place in range(8)], [2, 0, 1, 3, 2, 9, 0, 5])
        self.same(cost_at(program=LOOP, place=0), 2)

    def test_places_that_are_none(self):
        for function in (instruction_at, cost_at):
            for place in NEITHER + (4, SIXTY, "n", (0,), ()):
                self.not_usable("place", function, COUNT, place)
            self.not_usable("place", function, NOTHING, 1)

    def test_cell_of(self):
        for program in (COUNT, TWICE, LATE, MIXED):
            for cell in program[0]:
                self.same(cell_of(program, cell[0]), cell)
                self.same(cell_of(program=program, name=cell[0]), cell)
        for name in NEITHER + (0, "m", "kept", ("n",), COUNT[0][0]):
            self.not_usable("name", cell_of, COUNT, name)
        self.not_usable("name", cell_of, LOOP, "n")

    def test_cells_of(self):
        cells = (("a", "kept", 1, 0), ("b", "quick", 1, 0), ("c", "kept", 1, 0), ("saved", "quick", 1, 0))
        program = (cells, (("end",),), ())
        for kind, names in (("kept", ("a", "c")), ("quick", ("b", "saved")), ("saved", ())):
            self.same(cells_of(program, kind), names)
            self.same(cells_of(program=program, kind=kind), names)
            self.same(cells_of(LOOP, kind), ())
        for kind in NEITHER + (0, "Kept", "keptt", ("kept",), ["kept"], "off", "n"):
            self.not_usable("kind", cells_of, COUNT, kind)

    def test_marks(self):
        program = ((), (("off", 1), ("mark", 2), ("off", 3), ("jump", 0, 1), ("mark", 5), ("end",)), ())
        self.same([marks_of(program), marks_on(program)], [(0, 1, 2, 4), (1, 4)])
        self.same([marks_of(program=MIXED), marks_on(program=MIXED)], [(1, 3), (3,)])
        self.same([marks_of(COUNT), marks_on(COUNT), marks_of(NOTHING)], [(), (), ()])

    def test_value_of(self):
        values = (2, 1, 3)
        for expression, value in (
            (0, 0), (SIXTY, SIXTY), ("kept", 2), ("quick", 1), ("set", 3), (("plus", "kept", "set"), 5),
            (("minus", "quick", "set"), -2), (("minus", "set", "quick"), 2), (("times", "kept", "set"), 6),
            (("times", ("minus", 1, 4), ("minus", "kept", 9)), 21), (("times", ("minus", 0, 2), 3), -6),
            (("minus", 1, ("minus", 2, ("minus", 3, 9))), -7), (nested("plus", "set", 30), 33),
        ):
            self.same(value_of(MIXED, expression, values), value)
            self.same(value_of(program=MIXED, expression=expression, values=values), value)

    def test_big_values(self):
        self.same(value_of(BIG, ("times", "a", "plus"), (SIXTY, SIXTY)), SIXTY * SIXTY)
        self.same(value_of(BIG, ("plus", "plus", "a"), (1, SIXTY)), SIXTY + 1)
        self.same(value_of(BIG, nested("times", 10, 30), (0, 0)), 10)

    def test_holds(self):
        values = (2, 1, 3)
        for test, wanted in (
            (("less", "kept", "set"), True), (("less", "set", "kept"), False), (("less", 2, "kept"), False),
            (("equal", "kept", 2), True), (("equal", "kept", "quick"), False), (("not", ("equal", 1, 1)), False),
            (("less", ("minus", "quick", "set"), 0), True), (("less", 0, ("minus", 0, 0)), False),
            (("equal", ("minus", 0, 1), ("minus", 1, 2)), True), (negated(("less", 1, 2), 30), True),
            (negated(("less", 1, 2), 29), False), (("not", ("less", 3, 2)), True),
        ):
            self.same(holds(MIXED, test, values), wanted)
            self.same(holds(program=MIXED, test=test, values=values), wanted)

    def test_expressions_that_are_none(self):
        wrong = (
            "m", ("plus", "n", "m"), ("plus", 1, True), ("less", 1, 2), ("plus", 1), ("times", -1, 2), ["plus", 1, 2], (),
            nested("plus", "m", 30), nested("plus", None, 30),
        )
        for expression in NEITHER + wrong:
            self.not_usable("expression", value_of, COUNT, expression, (0,))
            self.not_usable("expression", value_of, COUNT, expression, None)
        self.not_usable("expression", value_of, LOOP, "n", ())

    def test_tests_that_are_none(self):
        wrong = (
            0, "n", ("less", "n", "m"), ("not", ("equal", "m", 1)), ("less", 1, True), ("plus", 1, 2), ("not", 1),
            ["less", 1, 2], ("less", 1), (), negated(("less", "m", 1), 30), negated("n", 30),
        )
        for test in NEITHER + wrong:
            self.not_usable("test", holds, COUNT, test, (0,))
            self.not_usable("test", holds, COUNT, test, None)

    def test_values_that_are_none(self):
        for values in ANYTHING + ((4,), (-1,), (True,), (False,), ("1",), (0, 0), [0], ((0,),), (SIXTY,)):
            if values != (0,):
                self.not_usable("values", value_of, COUNT, "n", values)
                self.not_usable("values", holds, COUNT, ("less", "n", 1), values)
        for values in ((3, 1, 3), (2, 2, 3), (2, 1, 4), (2, 1), (2, 1, 3, 0), (2, True, 3), [2, 1, 3], (2, None, 3)):
            self.not_usable("values", value_of, MIXED, 0, values)
            self.not_usable("values", holds, MIXED, ("less", 0, 1), values)
        self.same(value_of(LOOP, 5, ()), 5)
        self.not_usable("values", value_of, LOOP, 5, (0,))
