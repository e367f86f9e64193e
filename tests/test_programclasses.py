"""[19], [20]: programs as objects."""

import inspect

from enoughcharge.errors import InvalidPaper, InvalidText, NotUsable
from enoughcharge.programchanges import with_cell, with_costs, with_instruction, with_kind, with_marks, with_told
from enoughcharge.programclasses import Dearer, Program, Unmarked
from enoughcharge.programtexts import program_text
from tests.samples import ANYTHING, COUNT, LATE, LOOP, MIXED, NEITHER, NOTHING, SIXTY, TWICE, Checks

END = ("end",)
PROGRAMS = (COUNT, TWICE, LATE, LOOP, NOTHING, MIXED)
MARKED = ((), (("off", 1), ("mark", 2), ("jump", 0, 3), ("off", 4), ("mark", 5), END), ())


class ProgramChecks(Checks):
    def is_program_of(self, got, form):
        """The class Program itself, with exactly this form."""
        self.assertIs(got.__class__, Program)
        self.same(got.form, form)

    def not_usable(self, word, at, function, *given, **named):
        self.refused(NotUsable, {"word": word, "at": at}, function, *given, **named)

    def invalid(self, word, at, function, *given, **named):
        self.refused(InvalidPaper, {"word": word, "at": at}, function, *given, **named)


class ProgramTest(ProgramChecks):
    def everyone(self):
        """Each sample as a Program, and as objects of the derived classes with the same form."""
        for form in PROGRAMS:
            cells, code, told = form
            yield form, Program(cells, code, told)
            yield form, Program(told=told, code=code, cells=cells)
            yield form, Dearer(Program(cells, code, told), more=0)
            yield form, Unmarked(Program(cells, code, told))

    def test_properties(self):
        for form, program in self.everyone():
            self.same((program.cells, program.code, program.told), form)
            self.same(program.form, form)
        self.same(Program((), (END,)).told, ())
        self.same(Program((), (END,)).form, NOTHING)

    def test_properties_cannot_be_assigned(self):
        for _, program in self.everyone():
            for name in ("cells", "code", "told", "form"):
                with self.assertRaises(AttributeError):
                    setattr(program, name, ())

    def test_what_is_no_program(self):
        for word, at, given in (
            ("shape", -1, (None, (END,))), ("shape", -1, ((), ())), ("shape", -1, ([], (END,), ())),
            ("shape", -1, ((), (END,), [])), ("shape", -1, ((), (END,), None)), ("shape", -1, ((), [END])),
            ("cell", 0, ((None,), (END,))), ("start", 0, ((("n", "kept", 1, 2),), (END,))), ("word", 0, ((), (None,))),
            ("value", 0, ((), (("mark", 0), END))), ("cell", 0, ((), (("ask", "n", 1), END))),
            ("place", 0, ((), (("jump", 1, 1),))), ("last", -1, ((), (("mark", 1),))), ("told", -1, ((), (END,), ("n",))),
        ):
            self.invalid(word, at, Program, *given)

    def test_instructions(self):
        for form, program in self.everyone():
            self.same([program[place] for place in range(len(form[1]))], list(form[1]))
            self.same(len(program), len(form[1]))
            self.same(list(program), list(form[1]))
            self.same([line for line in program], list(form[1]))
            for place in NEITHER + (len(program), SIXTY, "n", (0,)):
                self.not_usable("place", -1, lambda at, shown=program: shown[at], place)

    def test_names(self):
        for form, program in self.everyone():
            for cell in form[0]:
                self.assertIs(cell[0] in program, True)
                self.same(program(cell[0]), cell)
                self.same(program(name=cell[0]), cell)
            for thing in ANYTHING + (form[1][0], form):
                if not isinstance(thing, str) or thing not in [cell[0] for cell in form[0]]:
                    self.assertIs(thing in program, False)
                    self.not_usable("name", -1, program, thing)

    def test_text(self):
        for form, program in self.everyone():
            self.same(str(program), program_text(form))

    def test_equality(self):
        for form, program in self.everyone():
            for other_form, other in self.everyone():
                self.assertIs(program == other, form == other_form)
                self.assertIs(program != other, form != other_form)
            for thing in ANYTHING + (form, str(program), object()):
                self.assertIs(program == thing, False)
                self.assertIs(thing == program, False)
                self.assertIs(program != thing, True)

    def test_adding(self):
        line = ("jump", 4, 3)
        for form, program in self.everyone():
            self.is_program_of(program + END, (form[0], form[1] + (END,), form[2]))
            self.same(program.form, form)
        self.is_program_of(Program(*COUNT) + line, (COUNT[0], COUNT[1] + (line,), COUNT[2]))
        self.is_program_of(Program(*COUNT) + END + line, (COUNT[0], COUNT[1] + (END, line), COUNT[2]))

    def test_adding_what_cannot_stand(self):
        for word, at, line in (
            ("last", -1, ("mark", 1)), ("last", -1, ("set", "n", 1, 1)), ("place", 4, ("jump", 5, 1)), ("value", 4, ("jump", 0, 0)),
            ("cell", 4, ("ask", "m", 1)), ("word", 4, ["end"]), ("word", 4, ()), ("word", 4, None), ("word", 4, (END,)), ("word", 4, 1),
        ):
            self.invalid(word, at, lambda thing: Program(*COUNT) + thing, line)
        for thing in NEITHER:
            self.invalid("word", 4, lambda other: Unmarked(Program(*COUNT)) + other, thing)

    def test_methods(self):
        cell = ("o", "quick", 2, 1)
        for form, program in self.everyone():
            self.is_program_of(program.changed(0, ("jump", 0, 7)), with_instruction(form, 0, ("jump", 0, 7)))
            self.is_program_of(program.holding(cell), with_cell(form, cell))
            self.is_program_of(program.marked(()), with_marks(form, ()))
            self.is_program_of(program.telling(()), with_told(form, ()))
            self.is_program_of(program.telling(form[2]), form)
            for name, kind, _, _ in form[0]:
                self.is_program_of(program.turned(name, kind), form)
            self.same(program.form, form)
        program = Program(*MIXED)
        self.is_program_of(program.turned("quick", "saved"), with_kind(MIXED, "quick", "saved"))
        self.is_program_of(program.turned(name="quick", kind="kept"), with_kind(MIXED, "quick", "kept"))
        self.is_program_of(program.marked((1,)), with_marks(MIXED, (1,)))
        self.is_program_of(program.marked(places=(1, 3)), with_marks(MIXED, (1, 3)))
        self.is_program_of(program.telling(names=("set",)), with_told(MIXED, ("set",)))
        self.is_program_of(program.holding(cell=cell), with_cell(MIXED, cell))
        self.is_program_of(program.changed(place=6, instruction=("off", 1)), with_instruction(MIXED, 6, ("off", 1)))

    def test_errors_of_methods(self):
        program = Program(*COUNT)
        self.not_usable("place", -1, program.changed, 4, None)
        self.invalid("word", 0, program.changed, 0, None)
        self.invalid("last", -1, program.changed, 3, ("mark", 1))
        self.invalid("cell", 1, program.holding, COUNT[0][0])
        self.invalid("cell", 1, program.holding, None)
        self.invalid("start", 0, program.holding, ("a", "kept", 0, 1))
        self.not_usable("name", -1, program.turned, "m", None)
        self.not_usable("kind", -1, program.turned, "n", None)
        self.invalid("told", -1, program.turned, "n", "quick")
        self.not_usable("places", -1, program.marked, (0,))
        self.not_usable("places", -1, program.marked, [])
        self.not_usable("names", -1, program.telling, ("m",))
        self.not_usable("names", -1, program.telling, None)

    def test_parsed(self):
        for form in PROGRAMS:
            self.is_program_of(Program.parsed(program_text(form)), form)
            self.is_program_of(Program.parsed(text=program_text(form)), form)
        for text, line, field in (("", 0, 0), ("told -", 1, 0), ("cell n kept 3 4\ntold n", 0, 4), ("told b,a\njump 9 1", 0, 1)):
            self.refused(InvalidText, {"line": line, "field": field}, Program.parsed, text)
        for text, word, at in (
            ("cell b kept 1 0\ncell a kept 1 0\ntold -\nend", "cell", 1), ("told -\njump 1 1", "place", 0), ("told -\nmark 1", "last", -1),
            ("told n\nend", "told", -1), ("told -\nask n 1\nend", "cell", 0), ("cell n quick 1 0\ntold n\nend", "told", -1),
        ):
            self.invalid(word, at, Program.parsed, text)

    def test_plain(self):
        self.is_program_of(Program.plain(), NOTHING)
        self.is_program_of(Program.plain(4), ((), (("mark", 4), END), ()))
        self.is_program_of(Program.plain(3, SIXTY, 3), ((), (("mark", 3), ("mark", SIXTY), ("mark", 3), END), ()))
        self.is_program_of(Program(*COUNT).plain(1), ((), (("mark", 1), END), ()))
        for wrong in NEITHER + (0, -SIXTY, "1", (1,), [1], b""):
            self.not_usable("costs", 0, Program.plain, wrong)
            self.not_usable("costs", 2, Program.plain, 1, 2, wrong, 3, wrong, 0)

    def test_kinds_of_methods(self):
        self.assertIsInstance(vars(Program)["parsed"], classmethod)
        self.assertIsInstance(vars(Program)["plain"], staticmethod)
        for name in ("cells", "code", "told", "form"):
            self.assertIsInstance(vars(Program)[name], property)
        for name in ("changed", "holding", "turned", "marked", "telling", "__getitem__", "__contains__", "__len__", "__iter__",
                     "__eq__", "__str__", "__call__", "__add__", "__init__"):
            self.assertTrue(inspect.isfunction(vars(Program)[name]))
        for kind in (Unmarked, Dearer):
            self.assertEqual(kind.__bases__, (Program,))
            self.assertIsInstance(vars(kind)["source"], property)


class UnmarkedTest(ProgramChecks):
    def test_marks(self):
        for places, on in (
            ((), (1, 4)), ((1,), (4,)), ((4,), (1,)), ((1, 4), ()), ((4, 1), ()), ((1, 1), (4,)), ((0,), (1, 4)), ((0, 3, 0), (1, 4)),
            ((3, 4, 4, 3), (1,)), ((0, 1, 3, 4), ()),
        ):
            source = Program(*MARKED)
            program = Unmarked(source, *places)
            self.same(program.form, with_marks(MARKED, on))
            self.assertIs(program.source, source)
            self.same(source.form, MARKED)

    def test_of_a_derived_one(self):
        first = Unmarked(Program(*MARKED), 1)
        second = Unmarked(first, 4)
        third = Dearer(second)
        self.assertIs(second.source, first)
        self.assertIs(third.source, second)
        self.same(second.form, with_marks(MARKED, ()))
        self.same(third.form, with_costs(with_marks(MARKED, ()), 1))
        self.assertIs(Unmarked(program=first).source, first)
        self.assertTrue(isinstance(third, Program) and not isinstance(third, Unmarked))

    def test_places_that_are_none(self):
        for wrong in NEITHER + (2, 5, 6, SIXTY, "1", (1,), [1]):
            self.not_usable("places", 0, self.marked_unmarked, wrong)
            self.not_usable("places", 3, self.marked_unmarked, 1, 0, 1, wrong, 2, wrong)
        with self.assertRaises(NotUsable):
            Unmarked(Program(*COUNT), 0)

    def marked_unmarked(self, *places):
        return Unmarked(Program(*MARKED), *places)

    def test_results_are_programs(self):
        for program in (Unmarked(Program(*MARKED), 1), Dearer(Program(*MARKED), more=2)):
            form = program.form
            for got in (program + END, program.changed(0, END), program.holding(("n", "kept", 1, 0)), program.marked(()),
                        program.telling(()), program.holding(("n", "kept", 1, 0)).turned("n", "saved")):
                self.assertIs(got.__class__, Program)
            self.same(program.form, form)
            with self.assertRaises(AttributeError):
                program.source = None

    def test_equal_to_a_program_of_the_same_form(self):
        plain = Program(*with_marks(MARKED, (4,)))
        unmarked = Unmarked(Program(*MARKED), 1)
        dearer = Dearer(plain, more=0)
        for one in (plain, unmarked, dearer):
            for other in (plain, unmarked, dearer):
                self.assertTrue(one == other and other == one and not one != other)
        for other in (Program(*MARKED), Unmarked(Program(*MARKED), 4), Dearer(plain)):
            for one in (plain, unmarked, dearer):
                self.assertTrue(one != other and other != one and not one == other)


class DearerTest(ProgramChecks):
    def test_costs(self):
        for form in PROGRAMS + (MARKED,):
            source = Program(*form)
            self.same(Dearer(source).form, with_costs(form, 1))
            for more in (0, 1, 9, SIXTY):
                self.same(Dearer(source, more=more).form, with_costs(form, more))
                self.assertIs(Dearer(program=source, more=more).source, source)
            self.same(source.form, form)

    def test_more_is_passed_by_name(self):
        with self.assertRaises(TypeError):
            Dearer(Program(*COUNT), 1)

    def test_what_is_no_number(self):
        for wrong in NEITHER + ("1", (1,), -SIXTY):
            self.not_usable("more", -1, lambda more: Dearer(Program(*COUNT), more=more), wrong)
