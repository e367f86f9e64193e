"""The examples of the document, as they stand."""

from enoughcharge.errors import InvalidPaper, InvalidText
from enoughcharge.moments import answer_of, first_moment, moment_after_step, steps_for, waking_of
from enoughcharge.programclasses import Dearer, Program, Unmarked
from enoughcharge.programreadings import instruction_read, program_read
from enoughcharge.pumped import lets_pumped, pumped_out
from enoughcharge.runs import is_ring, lets_run, moment_after, spent_after, wakings_of, width_of
from enoughcharge.widths import Width
from tests.samples import COUNT, LOOP, TWICE, Checks

MADE = (((), ()), ((),))


class ExampleTest(Checks):
    def test_programreadings(self):
        got = [instruction_read("set n plus(n,1) 2"), program_read("told -\nend")]
        self.same(got, [("set", "n", ("plus", "n", 1), 2), ((), (("end",),), ())])
        self.refused(InvalidText, {"line": 0, "field": 4}, program_read, "cell n kept 3 4\ntold n")

    def test_programclasses(self):
        program = Program.plain(2, 3)
        got = [program[1], len(program), str(Unmarked(program, 0)), Dearer(program, more=4)[0]]
        self.same(got, [("mark", 3), 3, "told -\noff 2\nmark 3\nend", ("mark", 6)])

    def test_moments(self):
        got = [first_moment(COUNT), moment_after_step(COUNT, first_moment(COUNT), ()), steps_for(COUNT, ((0, ()), 3, (2,)))]
        self.same(got, [((0, ()), 0, (0,)), ((0, ()), 1, (0,)), ()])
        got = [waking_of(TWICE, ((0, ()), 2, (1, 1))), answer_of(TWICE, ((0, ()), 2, (1, 1))),
               answer_of(TWICE, ((0, ()), 1, (0, 1)))]
        self.same(got, [((0, ()), 0, (0, 1)), (1,), None])

    def test_runs(self):
        got = [lets_run(COUNT, MADE), moment_after(COUNT, MADE), spent_after(COUNT, MADE), width_of(COUNT, MADE)]
        self.same(got, [1, ((0, ()), 1, (1,)), 1, 3])
        got = [wakings_of(COUNT, MADE), is_ring(COUNT, MADE), is_ring(COUNT, (((),), ())), width_of(COUNT, (((),), ()))]
        self.same(got, [(((0, ()), 0, (0,)), ((0, ()), 0, (1,))), False, True, 2])
        self.refused(InvalidPaper, {"word": "step", "at": (0, 1)}, lets_run, COUNT, (((), (1,)),))

    def test_pumped(self):
        got = [lets_pumped(LOOP, (((), ((),), ()), ())), pumped_out(LOOP, (((), ((),), ()), ()), 3)]
        self.same(got, [1, (((), (), ()), ())])

    def test_widths(self):
        got = [Width(9) <= Width(10), Width(10) >= Width(), (Width(3) | Width()).number, str(2 + Width(3)),
               str(Width() + 1), bool(Width(0))]
        self.same(got, [True, False, None, "5", "endless", False])
