"""The examples of the document, as they stand."""

from enoughcharge.answers import answer_width, answers_at, least_right, right_answers, run_to
from enoughcharge.desk import Desk
from enoughcharge.errors import InvalidEvent, InvalidPaper, InvalidText
from enoughcharge.eventreadings import read_event
from enoughcharge.likeness import are_alike, are_alike_always, parting_charges
from enoughcharge.loopchecker import lets_no_loop
from enoughcharge.loops import has_own_loop, order_paper, own_loop
from enoughcharge.machines import Machine
from enoughcharge.markingchecker import lets_marks
from enoughcharge.markings import doing_sets, least_sets, marks_paper
from enoughcharge.moments import answer_of, first_moment, moment_after_step, steps_for, waking_of
from enoughcharge.numbering import most_falls, numbering
from enoughcharge.onchecker import lets_on
from enoughcharge.onpapers import on_paper
from enoughcharge.profileclasses import Profile
from enoughcharge.profiles import critical_charges, profile
from enoughcharge.programchanges import with_marks
from enoughcharge.programclasses import Dearer, Program, Unmarked
from enoughcharge.programreadings import instruction_read, program_read
from enoughcharge.pumped import lets_pumped, pumped_out
from enoughcharge.rightchecker import lets_right
from enoughcharge.rightpapers import right_paper
from enoughcharge.rings import falls_end, least_charge, ring_run, ring_width
from enoughcharge.runclasses import Run
from enoughcharge.runs import is_ring, lets_run, moment_after, spent_after, wakings_of, width_of
from enoughcharge.savings import saving_sets
from enoughcharge.stories import story_of
from enoughcharge.stretches import falls_from, most_spent
from enoughcharge.walkers import Walker
from enoughcharge.widths import Width
from tests.papers import right_faults
from tests.samples import COUNT, LATE, LOOP, NOTHING, TWICE, Checks
from tests.test_savings import KEEP

MADE = (((), ()), ((),))


class ExampleTest(Checks):
    def test_programreadings(self):
        got = [instruction_read("set n plus(n,1) 2"), program_read("told -\nend")]
        self.same(got, [("set", "n", ("plus", "n", 1), 2), ((), (("end",),), ())])
        self.refused(InvalidText, {"line": 0, "field": 4}, program_read, "cell n kept 3 4\ntold n")

    def test_programclasses(self):
        program = Program.plain(2, 3)
        got = [program[1], len(program), str(Unmarked(program, 0)), Dearer(program, more=4)[0]]
        self.same(got, [("mark", 3), 3, "told -\noff 2\nmark 3\nend", ("mark", 6)])

    def test_moments(self):
        got = [first_moment(COUNT), moment_after_step(COUNT, first_moment(COUNT), ()), steps_for(COUNT, ((0, ()), 3, (2,)))]
        self.same(got, [((0, ()), 0, (0,)), ((0, ()), 1, (0,)), ()])
        got = [waking_of(TWICE, ((0, ()), 2, (1, 1))), answer_of(TWICE, ((0, ()), 2, (1, 1))),
               answer_of(TWICE, ((0, ()), 1, (0, 1)))]
        self.same(got, [((0, ()), 0, (0, 1)), (1,), None])

    def test_runs(self):
        got = [lets_run(COUNT, MADE), moment_after(COUNT, MADE), spent_after(COUNT, MADE), width_of(COUNT, MADE)]
        self.same(got, [1, ((0, ()), 1, (1,)), 1, 3])
        got = [wakings_of(COUNT, MADE), is_ring(COUNT, MADE), is_ring(COUNT, (((),), ())), width_of(COUNT, (((),), ()))]
        self.same(got, [(((0, ()), 0, (0,)), ((0, ()), 0, (1,))), False, True, 2])
        self.refused(InvalidPaper, {"word": "step", "at": (0, 1)}, lets_run, COUNT, (((), (1,)),))

    def test_pumped(self):
        got = [lets_pumped(LOOP, (((), ((),), ()), ())), pumped_out(LOOP, (((), ((),), ()), ()), 3)]
        self.same(got, [1, (((), (), ()), ())])

    def test_widths(self):
        got = [Width(9) <= Width(10), Width(10) >= Width(), (Width(3) | Width()).number, str(2 + Width(3)),
               str(Width() + 1), bool(Width(0))]
        self.same(got, [True, False, None, "5", "endless", False])

    def test_stories(self):
        self.same(list(story_of(COUNT, MADE)), [(0, 0), (1, 1), (2, 3), (0, 0), (1, 1)])

    def test_runclasses_and_walkers(self):
        got = [str(Run(COUNT, MADE)), Run(COUNT, MADE[:1]) <= Run(COUNT, MADE), Run.read(COUNT, ". . | -").width_now == Width(3)]
        self.same(got, [". . | .", True, True])
        walker = Walker(COUNT)
        got = [walker.step()[1], walker.tried((), "fall")[2], walker.fall()[1], walker.undo(), walker.made]
        self.same(got, [1, (1,), 0, "fall", (((),),)])

    def test_stretches(self):
        start = first_moment(COUNT)
        self.same(most_spent(COUNT, start)[:4], (
            (((0, ()), 0, (0,)), 0), (((0, ()), 0, (1,)), 4), (((0, ()), 0, (2,)), 8), (((0, ()), 1, (0,)), 1),
        ))
        self.same(falls_from(COUNT, start), ((((0, ()), 0, (0,)), 2), (((0, ()), 0, (1,)), 6), (((0, ()), 0, (2,)), 8)))
        self.same(most_spent(LOOP, first_moment(LOOP)), ((((0, ()), 0, ()), "endless"),))

    def test_rings(self):
        self.same([ring_width(COUNT), least_charge(COUNT), falls_end(COUNT, 2), falls_end(COUNT, 3)], [2, 3, False, True])
        self.same([least_charge(TWICE), least_charge(LATE), ring_width(LOOP), least_charge(LOOP)], [6, 7, "endless", None])
        self.same([ring_width(NOTHING), ring_run(NOTHING), least_charge(NOTHING)], [None, None, 0])

    def test_onchecker(self):
        self.same([lets_on(COUNT, 2, ("ring", (((),), ()))), lets_on(COUNT, 3, on_paper(COUNT, 3))], [False, True])
        self.refused(InvalidPaper, {"word": "width", "at": -1}, lets_on, COUNT, 3, ("ring", (((),), ())))
        rows = ((((0, ()), 0, ()), 0, ((((0, ()), 0, ()), 9),)),)
        self.refused(InvalidPaper, {"word": "fall", "at": (0, 0)}, lets_on, LOOP, 9, ("numbers", rows))

    def test_numbering(self):
        self.same([most_falls(COUNT, charge) for charge in (2, 3, 4, 5, 8, 9)], [None, 2, 2, 1, 1, 0])
        self.same(numbering(COUNT, 4), ((((0, ()), 0, (0,)), 2), (((0, ()), 0, (1,)), 1), (((0, ()), 0, (2,)), 0)))

    def test_loops(self):
        self.same([has_own_loop(COUNT, 0), own_loop(LOOP, 7)[1][0], has_own_loop(LOOP, 99)], [False, (), True])
        self.same([lets_no_loop(COUNT, 3, order_paper(COUNT, 3)) > 2, order_paper(LOOP, 3)], [True, None])
        rows = ((((0, ()), 0, ()), ((((0, ()), 0, ()), 3, 0),)),)
        self.refused(InvalidPaper, {"word": "order", "at": (0, 0)}, lets_no_loop, LOOP, 3, rows)

    def test_answers(self):
        got = [right_answers(TWICE), answers_at(TWICE, 5), answers_at(TWICE, 6), answer_width(TWICE, (2,)), answer_width(TWICE, (1,))]
        self.same(got, [((1,),), ((0,), (1,), (2,), (3,)), ((1,),), 5, "endless"])
        got = [width_of(TWICE, run_to(TWICE, (2,))), run_to(TWICE, (1,)), run_to(COUNT, (0,)), least_right(TWICE)]
        self.same(got, [5, (((), ()),), None, 6])

    def test_rightpapers(self):
        table = ((((0, ()), 0, (0, 0)), 0), (((0, ()), 1, (0, 1)), 1), (((0, ()), 2, (1, 1)), 6))
        paper = ("right", ((table[0][0], table),), (((1,), ((), ())),))
        self.same(list(right_faults(TWICE, 6, paper)), [])
        self.same(next(right_faults(TWICE, 5, paper)), ("fall", (0, 1)))
        got = [lets_right(TWICE, 6, paper), lets_right(TWICE, 6, right_paper(TWICE, 6)), lets_right(TWICE, 5, right_paper(TWICE, 5))]
        self.same(got, [True, True, False])
        self.refused(InvalidPaper, {"word": "fall", "at": (0, 1)}, lets_right, TWICE, 5, paper)

    def test_profiles(self):
        got = [profile(COUNT), critical_charges(COUNT), critical_charges(TWICE)]
        self.same(got, [(2, (((2,), True, "endless"),)), (3,), (6,)])
        self.same(profile(TWICE), (5, (((0,), False, 5), ((1,), True, "endless"), ((2,), False, 5), ((3,), False, 5))))
        got = [Profile(TWICE)[5], Profile(TWICE)[6], Profile(TWICE)((2,)), Profile(TWICE).least, (2,) in Profile(COUNT)]
        self.same(got, [(((0,), (1,), (2,), (3,)), True), (((1,),), False), (False, 5), 6, True])

    def test_markings_and_savings(self):
        got = [doing_sets(LATE, 6), doing_sets(LATE, 7), least_sets(LATE, 7), lets_marks(LATE, 7, marks_paper(LATE, 7))]
        self.same(got, [((),), ((), (1,)), ((),), ((), (1,))])
        self.same([saving_sets(KEEP, 5, 0), saving_sets(KEEP, 5, 1), saving_sets(KEEP, 7, 0)], [(("x",),), (), ((), ("x",))])

    def test_likeness(self):
        off = with_marks(LATE, ())
        got = [parting_charges(LATE, off), are_alike(LATE, off, 5), are_alike(LATE, off, 7), are_alike_always(LATE, off)]
        self.same(got, [(6,), True, True, False])

    def test_machines(self):
        machine = Machine(TWICE, 5)
        got = [machine.falls_left, machine.answers_left, machine.wrong_left, machine.step(), machine.can_fall, machine.width_here, machine.fall()]
        self.same(got, [None, ((0,), (1,), (2,), (3,)), ((0,), (2,), (3,)), 1, True, 5, 5])
        got = [machine.set_charge(6), machine.falls_left, machine.answers_left, machine["x"], machine.run_now]
        self.same(got, [None, 0, ((2,),), 1, (((),), ())])
        self.refused(InvalidEvent, {"event": ("fall",), "reason": "charge"}, machine.fall)
        machine = Machine(LATE, 6)
        got = [machine.put_off(1), machine.step(), machine.table(), machine.step(), machine.spent_now, machine.steps_now]
        self.same(got, [None, 6, ["s        saved   1   0"], 0, 6, ()])
        got = [machine.note("done"), machine.answers_left, machine.moment_at("done"), machine.barred(("on", 1)), len(machine)]
        self.same(got, [None, ((1,),), ((0, (0,)), 2, (1,)), "fresh", 4])

    def test_eventreadings(self):
        self.same([read_event("step -"), read_event("step 2"), read_event("fall")], [("step", ()), ("step", (2,)), ("fall",)])
        self.refused(InvalidText, {"line": 0, "field": 1}, read_event, "off 07")

    def test_desk(self):
        desk = Desk()
        got = [desk.say("machine 6 5\ncell s saved 1 0\ntold s\nset s 1 6\nmark 1\nend"), desk.say("left"), desk.say("off 1"), desk.say("left")]
        self.same(got, ["ok", "-", "-", "0"])
        self.same([desk.say("steps"), desk.say("step -"), desk.say("answers"), desk.say("wrong"), desk.say("log")], ["-", "6", "(1)", "-", "off 1 / step -"])
