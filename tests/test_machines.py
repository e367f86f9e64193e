"""[61] to [70]: live machines."""

import copy
import inspect
import random

from enoughcharge.answers import answers_at
from enoughcharge.errors import InvalidEvent, InvalidPaper, NotUsable, NothingToUndo
from enoughcharge.machines import Machine
from enoughcharge.numbering import most_falls
from enoughcharge.programclasses import Program
from enoughcharge.rings import least_charge
from enoughcharge.runclasses import Run
from enoughcharge.runs import is_run
from enoughcharge.widths import Width
from tests.live import Live, random_event
from tests.samples import ANYTHING, COUNT, LATE, LOOP, MIXED, NEITHER, NOTHING, SIXTY, TWICE, Checks
from tests.search import small_searches
from tests.test_profiles import SPOILT

END = ("end",)
# An ask, a mark, an "off", and a step behind them.
ASKS = (
    (("a", "kept", 3, 0), ("longname", "saved", 1000, 500), ("q", "quick", 2, 1)),
    (("ask", "a", 2), ("mark", 3), ("off", 4), ("set", "q", 2, 5), ("set", "longname", 7, 1), END),
    ("a",),
)
PROGRAMS = (COUNT, TWICE, LATE, LOOP, NOTHING, MIXED, ASKS)
NO_EVENTS = tuple(thing for thing in ANYTHING if thing != ("fall",)) + (
    "fall", ["fall"], ("fall", 0), ("fall", ()), ("fall", None), ("Fall",), ("step",), ("step", 0), ("step", None), ("step", []), ("step", (True,)),
    ("step", (-1,)), ("step", ("0",)), ("step", (0, 0)), ("step", ((),)), ("step", (), ()), ["step", ()], ("charge",), ("charge", -1), ("charge", True),
    ("charge", "5"), ("charge", None), ("charge", (5,)), ("charge", 5, 5), ("off",), ("off", -1), ("off", False), ("off", "1"), ("off", (1,)), ("off", 1, 1),
    ("on",), ("on", None), ("on", True), ("on", [1]), ("note",), ("note", ""), ("note", "A"), ("note", "ninechars"), ("note", 3), ("note", None), ("note", "a b"),
    ("note", "a", "b"), ("note", ("a",)), ("ask", ()), ("mark", 1), ("undo",), (("fall",),), (None, None), (["fall"],), (1, 1), ("machine", LATE, 6),
)


class MachineChecks(Checks):
    def is_like(self, machine, live):
        """All that a machine tells at once, by the names and the kinds of the document."""
        self.same(machine.program_now, live.program())
        self.same((machine.charge_now, machine.moment_now, machine.spent_now), (live.charge, live.moment(), live.model.spent))
        self.same(machine.run_now, tuple(tuple(stretch) for stretch in live.stretches))
        self.same(machine.width_here, live.width())
        self.same(machine.steps_now, tuple(live.model.choices()))
        self.assertIs(machine.can_fall, live.width() is not None and live.width() >= live.charge)
        self.same(machine.log(), live.log())
        self.same(len(machine), len(live.events))
        self.same([machine[name] for name in machine], list(live.model.now.values()))
        for name, (moment, falls) in live.notes.items():
            self.same(machine.moment_at(name), moment)
            self.same(machine.falls_since(name), len(live.stretches) - 1 - falls)

    def refuses(self, machine, event, reason):
        """That any value is refused as an event, by each way to apply it, and changes nothing but the tally."""
        kept = self.told_of(machine)
        many = machine.tally()[0]
        self.same(machine.barred(event), reason)
        self.same(machine.barred(event=event), reason)
        for apply in (machine, machine.go, machine.do_all, machine.tried, lambda it: machine(event=it), lambda it: machine.go(event=it)):
            with self.assertRaises(InvalidEvent) as caught:
                apply(event)
            self.assertIs(caught.exception.event, event)
            self.same(caught.exception.reason, reason)
            self.same(self.told_of(machine), kept)
        self.same(machine.tally(), (many + 5, many + 5))

    def told_of(self, machine):
        return [machine.log(), machine.program_now, machine.charge_now, machine.moment_now, machine.spent_now, machine.run_now]

    def raises(self, error, fields, function, *given, **named):
        with self.assertRaises(error) as caught:
            function(*given, **named)
        self.same(vars(caught.exception), fields)


class BeginningTest(MachineChecks):
    def test_new_machines(self):
        for program in PROGRAMS:
            for charge in (0, 5, SIXTY):
                for machine in (Machine(program, charge), Machine(charge=charge, program=program)):
                    self.is_like(machine, Live(program, charge))
                    self.same([machine.run_now, machine.spent_now, len(machine), machine.tally()], [((),), 0, 0, (0, 0)])
        self.same(Machine.MOST, 40)
        self.same(Machine(LATE, 6).MOST, 40)

    def test_what_is_no_program(self):
        for word, at, thing in (
            ("shape", -1, None), ("shape", -1, ()), ("shape", -1, [(), (END,), ()]), ("shape", -1, ((), (), ())), ("shape", -1, Program(*COUNT)),
            ("cell", 0, ((None,), (END,), ())), ("start", 0, ((("n", "kept", 1, 2),), (END,), ())), ("word", 0, ((), (None,), ())),
            ("value", 0, ((), (("mark", 0), END), ())), ("cell", 0, ((), (("ask", "n", 1), END), ())), ("place", 0, ((), (("jump", 1, 1),), ())),
            ("last", -1, ((), (("mark", 1),), ())), ("told", -1, ((), (END,), ("n",))),
        ):
            for charge in (6, None, True):
                self.raises(InvalidPaper, {"word": word, "at": at}, Machine, thing, charge)
                self.raises(InvalidPaper, {"word": word, "at": at}, Machine, charge=charge, program=thing)

    def test_what_is_no_charge(self):
        for thing in NEITHER + ("5", (5,), -SIXTY, Width(5)):
            for program in (COUNT, NOTHING):
                self.raises(NotUsable, {"word": "charge", "at": -1}, Machine, program, thing)
                self.raises(NotUsable, {"word": "charge", "at": -1}, Machine, charge=thing, program=program)


class EventTest(MachineChecks):
    def test_steps(self):
        for step, by_call in ((lambda machine: machine.step(3), False), (lambda machine: machine.go(("step", (3,))), True), (lambda machine: machine(("step", (3,))), True)):
            machine = Machine(ASKS, 4)
            self.same(step(machine), 2)
            self.same([machine["a"], machine.step(), machine.step(), machine.step(), machine.spent_now], [3, 3, 0, 5, 10])
            self.same([machine.moment_now, machine.run_now], [((2, (500,)), 4, (3, 500, 2)), (((3,), (), (), ()),)])
            self.same(machine.log()[1:], (("step", (3,)),) + (("step", ()),) * 3)
            self.same(machine.step(), 1)
            self.same([machine.steps_now, machine.can_fall, machine.width_here, machine.answers_left], [(), False, None, ((3,),)])
            self.assertTrue(by_call or len(machine) == 5)

    def test_steps_at_an_ask_and_elsewhere(self):
        machine = Machine(ASKS, 4)
        self.same(machine.steps_now, ((0,), (1,), (2,), (3,)))
        for answers in ((), (4,), (SIXTY,)):
            self.refuses(machine, ("step", answers), "step")
            self.raises(InvalidEvent, {"event": ("step", answers), "reason": "step"}, machine.step, *answers)
        for answers in ((1, 1), (None,), (True,), ((),), ("1",), (-1,), (1, 2, 3)):
            self.raises(InvalidEvent, {"event": ("step", answers), "reason": "shape"}, machine.step, *answers)
        machine.step(0)
        for answers in ((0,), (1,), (SIXTY,)):
            self.refuses(machine, ("step", answers), "step")
        self.same(machine.steps_now, ((),))

    def test_falls(self):
        for fall in (lambda machine: machine.fall(), lambda machine: machine.go(("fall",)), lambda machine: machine(("fall",))):
            machine = Machine(TWICE, 5)
            machine.step()
            self.same([fall(machine), machine.moment_now, machine.spent_now, machine.run_now], [5, ((0, ()), 0, (0, 1)), 0, (((),), ())])
            self.same(machine.log()[1:], (("step", ()), ("fall",)))
            self.refuses(machine, ("fall",), "charge")
        machine = Machine(TWICE, 0)
        self.same([machine.fall(), machine.fall(), machine.run_now], [0, 0, ((), (), ())])

    def test_a_fall_needs_the_charge_as_it_is_now(self):
        machine = Machine(TWICE, 6)
        self.refuses(machine, ("fall",), "charge")
        machine.set_charge(0)
        self.same(machine.can_fall, True)
        machine.step()
        self.same([machine.can_fall, machine.fall()], [True, 5])
        machine.set_charge(5)
        machine.step()
        self.same(machine.can_fall, True)
        machine.undo()
        machine.undo()
        machine.set_charge(6)
        machine.step()
        self.refuses(machine, ("fall",), "charge")

    def test_no_cost_is_due(self):
        # At an "off" no fall can come, nor is the moment over.
        machine = Machine(ASKS, 0)
        machine.do_all(("step", (1,)), ("step", ()))
        self.same([machine.can_fall, machine.width_here, machine.barred(("fall",))], [False, None, "charge"])
        self.refuses(machine, ("fall",), "charge")
        self.same(machine.steps_now, ((),))

    def test_over(self):
        for machine in (Machine(NOTHING, 0), Machine(NOTHING, SIXTY)):
            for event in (("step", ()), ("step", (0,)), ("fall",)):
                self.refuses(machine, event, "over")
            self.same([machine.width_here, machine.can_fall, machine.steps_now, machine.falls_left, machine.answers_left, machine.wrong_left],
                      [None, False, (), 0, ((),), ()])
            machine.note("end")
            self.same(machine.moment_at("end"), ((0, ()), 0, ()))

    def test_charges(self):
        def assigned(machine, n):
            machine.charge_now = n
        for change in (lambda machine, n: machine.set_charge(n), assigned, lambda machine, n: machine.go(("charge", n)), lambda machine, n: machine(("charge", n)),
                       lambda machine, n: machine.set_charge(n=n)):
            machine = Machine(LATE, 6)
            self.same([change(machine, 9), machine.charge_now, change(machine, 0), machine.charge_now, machine.log()[1:]],
                      [None, 9, None, 0, (("charge", 9), ("charge", 0))])
            self.same(machine.tally(), (2, 2))
            with self.assertRaises(InvalidEvent) as caught:
                change(machine, 0)
            self.same(vars(caught.exception), {"event": ("charge", 0), "reason": "same"})
            for thing in NEITHER:
                with self.assertRaises(InvalidEvent) as caught:
                    change(machine, thing)
                self.same(vars(caught.exception), {"event": ("charge", thing), "reason": "shape"})
                self.same(machine.charge_now, 0)
            self.same(machine.tally(), (3 + len(NEITHER),) * 2)
            machine.step()
            with self.assertRaises(InvalidEvent) as caught:
                change(machine, 0)
            self.same(vars(caught.exception), {"event": ("charge", 0), "reason": "fresh"})

    def test_marks(self):
        machine = Machine(ASKS, 4)
        self.same([machine.put_off(1), machine.program_now[1][1], machine.put_on(2), machine.program_now[1][2]], [None, ("off", 3), None, ("mark", 4)])
        self.same([machine.go(("on", 1)), machine(("off", 2)), machine.program_now], [None, None, ASKS])
        self.same([machine.put_off(place=1), machine.put_on(place=1)], [None, None])
        for place in (1, 0, 3, 5, 6, SIXTY):
            self.refuses(machine, ("on", place), "place")
        for place in (2, 0, 3, 5, 6, SIXTY):
            self.refuses(machine, ("off", place), "place")
        for method, word in ((machine.put_off, "off"), (machine.put_on, "on")):
            for thing in NEITHER:
                self.raises(InvalidEvent, {"event": (word, thing), "reason": "shape"}, method, thing)
        self.same(ASKS[1][1:3], (("mark", 3), ("off", 4)))

    def test_a_fall_with_the_copy_of_a_mark_that_is_off_now(self):
        machine = Machine(ASKS, 0)
        machine.do_all(("step", (2,)), ("step", ()), ("step", ()), ("step", ()), ("fall",))
        wanted = ((2, (500,)), 2, (2, 500, 1))
        self.same(machine.moment_now, wanted)
        machine.put_off(1)
        self.same(machine.moment_now, wanted)
        machine.do_all(("step", ()), ("step", ()), ("fall",))
        self.same([machine.moment_now, machine.program_now[1][1]], [wanted, ("off", 3)])
        # The run so far is no run of the program as it is now.
        self.assertFalse(is_run(machine.program_now, machine.run_now))

    def test_notes(self):
        machine = Machine(ASKS, 0)
        self.same([machine.note("a"), machine.go(("note", "b")), machine(("note", "c")), machine.note(name="d")], [None] * 4)
        machine.do_all(("step", (1,)), ("fall",), ("note", "e"), ("step", (2,)), ("note", "f"), ("fall",), ("fall",))
        self.same([machine.moment_at(name) for name in "abcdef"],
                  [((0, (500,)), 0, (0, 500, 1))] * 4 + [((0, (500,)), 0, (1, 500, 1)), ((0, (500,)), 1, (2, 500, 1))])
        self.same([machine.falls_since(name) for name in "abcdef"], [3, 3, 3, 3, 2, 2])
        self.same([machine.moment_at(name="a"), machine.falls_since(name="e")], [((0, (500,)), 0, (0, 500, 1)), 2])
        for name in "abcdef":
            self.refuses(machine, ("note", name), "twice")
        for thing in NEITHER:
            self.raises(InvalidEvent, {"event": ("note", thing), "reason": "shape"}, machine.note, thing)
        for thing in NEITHER + ("g", "aa", "note", ("a",), 0, b"a"):
            self.raises(NotUsable, {"word": "name", "at": -1}, machine.moment_at, thing)
            self.raises(NotUsable, {"word": "name", "at": -1}, machine.falls_since, thing)
        # A note may be called like an event, and answers nothing either.
        self.same([machine.note("fall"), machine.note("step"), machine.undo(), machine.undo()], [None, None, ("note", "step"), ("note", "fall")])
        # The name of a cell is free for a note, and a note is taken back like anything.
        self.same([machine.note("longname"), machine.falls_since("longname"), machine.undo()], [None, 0, ("note", "longname")])
        self.raises(NotUsable, {"word": "name", "at": -1}, machine.moment_at, "longname")


class ReasonTest(MachineChecks):
    def test_what_is_no_event(self):
        for program in (ASKS, NOTHING, LATE):
            machine = Machine(program, 0)
            for thing in NO_EVENTS:
                self.refuses(machine, thing, "shape")
        for thing in (Machine(LATE, 6), Run(COUNT), Width()):
            self.refuses(Machine(LATE, 6), thing, "shape")

    def test_full_with_forty_events(self):
        machine = Machine(LATE, 0)
        for _ in range(40):
            machine.fall()
        self.same([len(machine), machine.can_fall, machine.steps_now, machine.falls_left], [40, True, ((),), None])
        for event in (("fall",), ("step", ()), ("step", (7,)), ("charge", 0), ("charge", 3), ("off", 1), ("on", 1), ("note", "a")):
            self.refuses(machine, event, "full")
        for thing in NO_EVENTS:
            self.same(machine.barred(thing), "shape")
        with self.assertRaises(InvalidEvent) as caught:
            machine.charge_now = 7
        self.same(vars(caught.exception), {"event": ("charge", 7), "reason": "full"})
        self.same([machine.undo(), machine.barred(("fall",)), machine.note("a"), machine.barred(("note", "a"))], [("fall",), None, None, "full"])

    def test_full_counts_the_events_before(self):
        machine = Machine(LATE, 0)
        falls = (("fall",),) * 38
        self.same(machine.do_all(*falls), 38)
        self.same(machine.tried(("fall",), ("fall",)), (machine.moment_now, 0, 0))
        self.raises(InvalidEvent, {"event": ("note", "a"), "reason": "full"}, machine.tried, ("fall",), ("fall",), ("note", "a"))
        self.raises(InvalidEvent, {"event": None, "reason": "shape"}, machine.tried, ("fall",), ("fall",), None)
        self.raises(InvalidEvent, {"event": ("note", "a"), "reason": "full"}, machine.do_all, ("fall",), ("fall",), ("note", "a"))
        self.same(len(machine), 38)
        self.raises(InvalidEvent, {"event": ("note", "a"), "reason": "full"}, machine.do_all, ("fall",), ("fall",), ("note", "a"), keep=True)
        self.same(len(machine), 40)

    def test_fresh(self):
        machine = Machine(ASKS, 0)
        changes = (("charge", 3), ("off", 1), ("on", 2))
        # At the beginning, behind a charge, behind marks and behind a note.
        for event in ((), ("charge", 9), ("off", 1), ("on", 2), ("note", "a")):
            if event:
                machine.go(event)
            self.same([machine.barred(("charge", 4)), machine.barred(("charge", machine.charge_now))], [None, "same"])
        machine = Machine(ASKS, 0)
        machine.step(1)
        for event in changes + (("charge", 0), ("off", 0), ("on", SIXTY)):
            self.refuses(machine, event, "fresh")
        machine.note("here")
        self.refuses(machine, ("charge", 3), "fresh")
        machine.fall()
        for event in changes:
            self.same(machine.barred(event), None)
        machine.note("there")
        self.same(machine.barred(("charge", 3)), None)

    def test_not_fresh_behind_a_step_at_an_off(self):
        program = ((), (("off", 3), ("jump", 0, 1)), ())
        machine = Machine(program, 0)
        self.same([machine.step(), machine.spent_now], [0, 0])
        for event in (("charge", 3), ("on", 0)):
            self.refuses(machine, event, "fresh")
        self.same([machine.fall(), machine.put_on(0), machine.step(), machine.barred(("off", 0)), machine.fall()], [0, None, 3, "fresh", 3])
        self.same([machine.moment_now, machine.put_off(0)], [((1, ()), 1, ()), None])

    def test_the_first_reason(self):
        over = Machine(NOTHING, 3)
        self.refuses(over, ("step", (5,)), "over")
        machine = Machine(ASKS, 4)
        machine.step(0)
        # Not fresh, and the charge is the same, and there is no such mark.
        for event in (("charge", 4), ("off", 0), ("on", 1)):
            self.refuses(machine, event, "fresh")
        self.refuses(machine, ("step", (True,)), "shape")

    def test_events_that_are_not_changed(self):
        machine = Machine(ASKS, 0)
        for thing in ([], ["step", ()], [["fall"]], ("step", [0]), {"fall": 1}):
            kept = copy.deepcopy(thing)
            self.refuses(machine, thing, "shape")
            self.same(thing, kept)


class OperatorTest(MachineChecks):
    def test_values(self):
        machine = Machine(ASKS, 0)
        machine.step(3)
        self.same([machine["a"], machine["longname"], machine["q"]], [3, 500, 1])
        for thing in NEITHER + ("b", "aa", "longnam", 0, 2, ("a",), slice(0, 1), Width()):
            self.raises(NotUsable, {"word": "name", "at": -1}, lambda at: machine[at], thing)

    def test_names(self):
        for program in PROGRAMS:
            machine = Machine(program, 3)
            names = [cell[0] for cell in program[0]]
            self.same([list(machine), [name for name in machine], tuple(machine)], [names, names, tuple(names)])
            for name in names:
                self.assertIs(name in machine, True)
            for thing in ANYTHING + (("a",), "b", Width(), machine):
                if thing not in names:
                    self.assertIs(thing in machine, False)

    def test_length(self):
        machine = Machine(ASKS, 0)
        for many, event in enumerate((("note", "a"), ("charge", 3), ("step", (0,)), ("step", ()), ("step", ()), ("fall",))):
            self.same(len(machine), many)
            if event != ("fall",):
                machine.go(event)
        self.same(len(machine), 5)

    def test_equality(self):
        def led(program, charge, *events):
            machine = Machine(program, charge)
            machine.do_all(*events)
            return machine
        logs = [
            (ASKS, 0), (ASKS, 1), (ASKS, 0, ("fall",)), (ASKS, 0, ("step", (0,))), (ASKS, 0, ("step", (1,))), (ASKS, 0, ("step", (1,)), ("note", "a")),
            (ASKS, 0, ("note", "a")), (ASKS, 0, ("note", "b")), (ASKS, 0, ("note", "b"), ("note", "a")), (ASKS, 0, ("note", "a"), ("note", "b")),
            (ASKS, 0, ("charge", 1)), (ASKS, 1, ("charge", 0)), (ASKS, 0, ("off", 1)), (ASKS, 0, ("on", 2)), (ASKS, 0, ("off", 1), ("on", 1)), (LATE, 0), (LATE, 6),
            ((ASKS[0], ASKS[1], ()), 0), ((ASKS[0], ASKS[1][:4] + (("set", "longname", 8, 1), END), ASKS[2]), 0),
        ]
        for at, log in enumerate(logs):
            for other_at, other in enumerate(logs):
                one, two = led(*log), led(*other)
                self.assertIs(one == two, at == other_at)
                self.assertIs(one != two, at != other_at)
        one, two = led(ASKS, 0, ("step", (0,))), led(ASKS, 0)
        one.undo()
        two.note("a")
        two.undo()
        self.assertIs(one == two, True)
        self.assertFalse(one.tally() == two.tally() == (0, 0))

    def test_equal_to_no_other_value(self):
        machine = Machine(LATE, 6)
        for thing in ANYTHING + (machine.log(), LATE, Run(LATE), Width(6), Program(*LATE), Machine, object()):
            self.assertIs(machine == thing, False)
            self.assertIs(thing == machine, False)
            self.assertIs(machine != thing, True)

    def test_properties_cannot_be_assigned(self):
        machine = Machine(LATE, 6)
        for name in ("program_now", "moment_now", "spent_now", "run_now", "can_fall", "width_here", "steps_now", "falls_left", "answers_left", "wrong_left"):
            with self.assertRaises(AttributeError):
                setattr(machine, name, 0)

    def test_where_methods_are_defined(self):
        for name in ("program_now", "charge_now", "moment_now", "spent_now", "run_now", "can_fall", "width_here", "steps_now", "falls_left", "answers_left", "wrong_left"):
            self.assertIsInstance(vars(Machine)[name], property)
        self.assertIsNotNone(vars(Machine)["charge_now"].fset)
        for name in ("__init__", "step", "fall", "set_charge", "put_off", "put_on", "note", "go", "__call__", "__getitem__", "__contains__", "__iter__", "__len__",
                     "__eq__", "__str__", "tried", "undo", "do_all", "tally", "barred", "table", "moment_at", "falls_since", "log"):
            self.assertTrue(inspect.isfunction(vars(Machine)[name]))
        self.assertEqual(Machine.__module__, "enoughcharge.machines")


class TableTest(MachineChecks):
    def test_rows(self):
        machine = Machine(ASKS, 0)
        machine.do_all(("step", (3,)), ("step", ()), ("step", ()), ("step", ()))
        self.same(machine.table(), ["a        kept    3   3", "longname saved 500 500", "q        quick   2   1"])
        machine.step()
        self.same(machine.table(), ["a        kept    3   3", "longname saved   7 500", "q        quick   2   1"])
        self.same(Machine(NOTHING, 0).table(), [])
        self.assertIsNot(machine.table(), machine.table())

    def test_after_a_fall_that_comes_now(self):
        # Also where none can come: at the end, and with a charge that is enough.
        machine = Machine(LATE, 6)
        self.same([machine.put_off(1), machine.step(), machine.table(), machine.step(), machine.table()],
                  [None, 6, ["s        saved   1   0"], 0, ["s        saved   1   0"]])

    def test_great_values(self):
        cells = (("longname", "quick", SIXTY, 7), ("x", "kept", 9999, 1234), ("y", "saved", 100, 99), ("z", "saved", 100, 100))
        machine = Machine((cells, (("set", "longname", 100, 1), END), ()), 0)
        machine.step()
        self.same(machine.table(), ["longname quick 100   7", "x        kept  1234 1234", "y        saved  99  99", "z        saved 100 100"])


class TriedTest(MachineChecks):
    def test_tried(self):
        machine = Machine(ASKS, 0)
        kept = self.told_of(machine)
        self.same(machine.tried(), (((0, (500,)), 0, (0, 500, 1)), 0, 0))
        self.same(machine.tried(("step", (3,)), ("step", ())), (((2, (500,)), 2, (3, 500, 1)), 5, 0))
        self.same(machine.tried(("charge", 1), ("step", (2,)), ("step", ()), ("step", ()), ("step", ()), ("fall",), ("charge", 7)), (((2, (500,)), 2, (2, 500, 1)), 0, 7))
        self.same(machine.tried(("off", 1), ("note", "a"), ("step", (3,)), ("step", ())), (((0, (500,)), 2, (3, 500, 1)), 2, 0))
        for events, at, reason in (
            ((None,), 0, "shape"), ((("step", (1,)), ("step", (1,)), None), 1, "step"), ((("step", (1,)), ("charge", 3)), 1, "fresh"),
            ((("charge", 0),), 0, "same"), ((("charge", 1), ("fall",)), 1, None), ((("note", "a"), ("note", "a")), 1, "twice"), ((("charge", 9), ("fall",)), 1, "charge"),
        ):
            if reason is None:
                self.same(machine.tried(*events), (machine.moment_now, 0, 1))
            else:
                self.raises(InvalidEvent, {"event": events[at], "reason": reason}, machine.tried, *events)
            self.same([self.told_of(machine), machine.tally()], [kept, (0, 0)])

    def test_undo(self):
        machine = Machine(ASKS, 0)
        events = (("note", "a"), ("charge", 1), ("off", 1), ("on", 2), ("fall",), ("step", (3,)), ("step", ()), ("step", ()), ("note", "b"), ("fall",), ("charge", 9), ("step", ()))
        told = []
        for event in events:
            told.append(self.told_of(machine))
            machine.go(event)
        for event in events[::-1]:
            self.same(machine.undo(), event)
            self.same(self.told_of(machine), told.pop())
        self.same(machine.log(), (("machine", ASKS, 0),))
        for _ in range(2):
            self.raises(NothingToUndo, {"steps": 0}, machine.undo)
        self.assertTrue(machine == Machine(ASKS, 0))
        self.same(machine.tally(), (2 * len(events) + 2,) * 2)
        self.raises(NotUsable, {"word": "name", "at": -1}, machine.moment_at, "a")

    def test_what_is_undone_can_be_done_again(self):
        machine = Machine(TWICE, 5)
        machine.step()
        machine.fall()
        machine.undo()
        self.same([machine.spent_now, machine.run_now, machine["x"], machine.fall(), machine.undo(), machine.undo(), machine["x"]],
                  [1, (((),),), 1, 5, ("fall",), ("step", ()), 0])

    def test_do_all(self):
        machine = Machine(ASKS, 0)
        self.same([machine.do_all(), machine.do_all(keep=True), len(machine)], [0, 0, 0])
        self.same(machine.do_all(("step", (3,)), ("step", ()), keep=False), 2)
        self.same(machine.do_all(("step", ()), ("note", "a"), ("step", ()), keep=True), 3)
        self.same([len(machine), machine.spent_now, machine.tally()], [5, 10, (4, 4)])

    def test_do_all_with_an_event_that_is_refused(self):
        events = [("step", (3,)), ("note", "a"), ("step", ()), ("step", ()), ("step", ()), ("fall",)]
        for at in range(len(events) + 1):
            for wrong, reason in ((None, "shape"), (("step", (9,)), "step"), (("off", 0), "place" if at in (0,) else None)):
                for keep in (False, True):
                    machine = Machine(ASKS, 0)
                    given = events[:at] + [wrong] + events[at:]
                    if reason:
                        self.raises(InvalidEvent, {"event": wrong, "reason": reason}, machine.do_all, *given, keep=keep)
                    else:
                        with self.assertRaises(InvalidEvent):
                            machine.do_all(*given, keep=keep)
                    self.same(machine.log()[1:], tuple(events[:at]) if keep else ())
                    self.same(machine.tally(), (1, 1))
        machine = Machine(ASKS, 0)
        machine.go(("note", "b"))
        self.raises(InvalidEvent, {"event": ("note", "b"), "reason": "twice"}, machine.do_all, *events, ("note", "b"))
        self.same(machine.log()[1:], (("note", "b"),))

    def test_keep_is_a_bool(self):
        machine = Machine(ASKS, 0)
        for thing in (0, 1, None, "", (), [], "True"):
            self.raises(NotUsable, {"word": "keep", "at": -1}, machine.do_all, ("fall",), None, keep=thing)
        self.same([len(machine), machine.tally()], [0, (7, 7)])

    def test_tally(self):
        machine = Machine(ASKS, 0)
        many = 0
        for operation in (
            lambda: machine.step(1), lambda: machine.step(1), lambda: machine.fall(), lambda: machine.set_charge(3), lambda: machine.set_charge(3),
            lambda: machine.put_off(1), lambda: machine.put_off(1), lambda: machine.put_on(1), lambda: machine.put_on(None), lambda: machine.note("a"),
            lambda: machine.note("a"), lambda: machine.go(("fall",)), lambda: machine.go(None), lambda: machine(("note", "b")), lambda: machine(7),
            lambda: setattr(machine, "charge_now", 5), lambda: setattr(machine, "charge_now", 5), lambda: setattr(machine, "charge_now", None),
            lambda: machine.undo(), lambda: machine.do_all(), lambda: machine.do_all(("note", "c"), ("note", "d")), lambda: machine.do_all(("note", "e"), None, keep=True),
            lambda: machine.do_all(("note", "f"), None), lambda: machine.do_all(keep=3), lambda: Machine(ASKS, 0).undo(),
        ):
            try:
                operation()
            except (InvalidEvent, NotUsable, NothingToUndo):
                pass
            many += 1
            self.same(machine.tally(), (min(many, 24),) * 2)

    def test_what_is_asked_counts_nothing(self):
        machine = Machine(ASKS, 0)
        machine.note("a")
        kept = self.told_of(machine)
        for _ in range(2):
            for ask in (
                lambda: machine.program_now, lambda: machine.charge_now, lambda: machine.moment_now, lambda: machine.spent_now, lambda: machine.run_now,
                lambda: machine.can_fall, lambda: machine.width_here, lambda: machine.steps_now, lambda: machine.falls_left, lambda: machine.answers_left,
                lambda: machine.wrong_left, lambda: machine["a"], lambda: machine["b"], lambda: "a" in machine, lambda: list(machine), lambda: len(machine),
                lambda: machine == Machine(ASKS, 0), lambda: machine.tried(("fall",)), lambda: machine.tried(None), lambda: machine.tally(), lambda: machine.barred(("fall",)),
                lambda: machine.barred(None), lambda: machine.table(), lambda: machine.moment_at("a"), lambda: machine.moment_at("b"), lambda: machine.falls_since("a"),
                lambda: machine.falls_since(None), lambda: machine.log(), lambda: str(machine),
            ):
                try:
                    ask()
                except (InvalidEvent, NotUsable):
                    pass
                self.same([self.told_of(machine), machine.tally()], [kept, (1, 1)])


class AheadTest(MachineChecks):
    def is_ahead(self, machine, falls, answers, wrong):
        self.same([machine.falls_left, machine.answers_left, machine.wrong_left], [falls, answers, wrong])

    def test_twice(self):
        every = ((0,), (1,), (2,), (3,))
        machine = Machine(TWICE, 5)
        self.is_ahead(machine, None, every, ((0,), (2,), (3,)))
        machine.do_all(("step", ()), ("step", ()))
        # Behind the long step no fall can come.
        self.is_ahead(machine, 0, ((1,),), ())
        machine = Machine(TWICE, 6)
        self.is_ahead(machine, 0, ((1,),), ())

    def test_what_is_spent_counts(self):
        # A fall with a charge of 9 can come only where 2 is spent and 8 is due.
        machine = Machine(SPOILT, 9)
        for _ in range(3):
            self.is_ahead(machine, 1, ((0,), (1,)), ((1,),))
            machine.step()
        self.is_ahead(machine, 0, ((0,),), ())
        self.same([machine.undo(), machine.fall()], [("step", ()), 9])
        self.is_ahead(machine, 0, ((1,),), ((1,),))

    def test_a_moment_that_is_a_waking_with_something_spent(self):
        # A round leads back to the first moment, where 6 is spent: a fall comes there, and none behind it.
        program = ((("x", "kept", 3, 0),), (("unless", ("less", "x", 3), 3, 1), ("set", "x", ("plus", "x", 1), 2), ("jump", 0, 3), END), ("x",))
        machine = Machine(program, 18)
        for _ in range(3):
            self.is_ahead(machine, 1, ((3,),), ())
            machine.do_all(("step", ()), ("step", ()), ("step", ()))
        self.is_ahead(machine, 1, ((3,),), ())
        machine.step()
        self.is_ahead(machine, 0, ((3,),), ())
        loop = Machine(LOOP, 3)
        self.is_ahead(loop, None, (), ())
        loop.do_all(("step", ()), ("step", ()))
        self.is_ahead(loop, None, (), ())

    def test_changes(self):
        machine = Machine(TWICE, 5)
        machine.charge_now = 6
        self.is_ahead(machine, 0, ((1,),), ())
        machine.charge_now = 0
        self.is_ahead(machine, None, ((0,), (1,), (2,), (3,)), ((0,), (2,), (3,)))
        late = Machine(LATE, 6)
        self.is_ahead(late, None, ((1,),), ())
        late.put_off(1)
        self.is_ahead(late, 0, ((1,),), ())

    def test_full_does_not_matter(self):
        machine = Machine(TWICE, 0)
        machine.do_all(*(("fall",),) * 40)
        self.is_ahead(machine, None, ((0,), (1,), (2,), (3,)), ((0,), (2,), (3,)))
        count = Machine(COUNT, 3)
        count.do_all(*[("note", chr(97 + at // 26) + chr(97 + at % 26)) for at in range(40)])
        self.same([len(count), count.falls_left], [40, 2])

    def test_a_wrong_answer_that_is_its_own(self):
        machine = Machine(TWICE, 5)
        machine.do_all(("step", ()), ("fall",), ("step", ()), ("step", ()))
        self.same(machine.steps_now, ())
        self.is_ahead(machine, 0, ((2,),), ((2,),))

    def test_new_machines(self):
        for search in small_searches(211, 120):
            for charge in (0, 3, 8, 15, 40):
                machine = Machine(search.program, charge)
                right = search.right()
                answers = answers_at(search.program, charge)
                self.is_ahead(machine, most_falls(search.program, charge), answers, tuple(answer for answer in answers if answer not in right))


class RandomTest(MachineChecks):
    def test_led_beside_another_machine(self):
        pick = random.Random(212)
        reasons = {}
        for search in small_searches(213, 250, 40):
            program = search.program
            charge = pick.randrange(16)
            machine, live = Machine(program, charge), Live(program, charge)
            for _ in range(pick.choice((5, 20, 60, 150))):
                event = random_event(pick, live)
                reason = live.reason(event)
                reasons[reason] = reasons.get(reason, 0) + 1
                self.same(machine.barred(event), reason)
                if reason is None:
                    tried = machine.tried(event)
                    self.same(machine.go(event), live.apply(event))
                    self.same(tried, (live.moment(), live.model.spent, live.charge))
                else:
                    self.raises(InvalidEvent, {"event": event, "reason": reason}, machine, event)
                if live.events and pick.random() < 0.1:
                    self.same(machine.undo(), live.undo())
                self.is_like(machine, live)
        self.assertGreater(min(reasons[word] for word in (None, "over", "step", "charge", "fresh", "same", "place", "twice")), 15)
        self.assertGreater(reasons["full"], 15)

    def test_what_can_still_come(self):
        pick = random.Random(214)
        numbers = {}
        for search in small_searches(215, 260, 30):
            program = search.program
            # With the least charge with which the falls end some can often still come.
            least = least_charge(program)
            charge = pick.randrange(14) if least is None else least + pick.choice((-1, 0, 0, 0, 1)) if least else 0
            machine, live = Machine(program, charge), Live(program, charge)
            for _ in range(12):
                ahead = live.ahead()
                self.same([machine.falls_left, machine.answers_left, machine.wrong_left], [ahead.falls, ahead.answers, ahead.wrong])
                kind = ahead.falls if ahead.falls is None else min(ahead.falls, 3)
                numbers[kind] = numbers.get(kind, 0) + 1
                event = random_event(pick, live)
                if live.reason(event) is None:
                    machine.go(event)
                    live.apply(event)
        self.assertGreater(min(numbers[kind] for kind in (None, 0, 1, 2)), 10, numbers)

    def test_consequences(self):
        pick = random.Random(216)
        for search in small_searches(217, 150, 40):
            live = Live(search.program, pick.randrange(12))
            machine = Machine(search.program, live.charge)
            for _ in range(15):
                event = random_event(pick, live)
                self.assertIs(machine.can_fall, machine.width_here is not None and machine.charge_now <= machine.width_here)
                if live.reason(event) is None:
                    before = (machine.falls_left, machine.answers_left, machine.wrong_left, machine.charge_now)
                    machine.go(event)
                    live.apply(event)
                    self.grew_less(event, before, machine)

    def grew_less(self, event, before, machine):
        falls, answers, wrong, charge = before
        self.assertFalse(set(wrong) & (set(machine.answers_left) - set(machine.wrong_left)))
        if event[0] in ("step", "fall") or (event[0] == "charge" and event[1] > charge):
            self.assertTrue(set(machine.answers_left) <= set(answers))
            if falls is not None:
                self.assertLessEqual(machine.falls_left, falls - (event[0] == "fall"))
        if event[0] == "note":
            self.same([machine.falls_left, machine.answers_left, machine.wrong_left], [falls, answers, wrong])
