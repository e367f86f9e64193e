"""[71]: logs, and machines that are replayed from them."""

import random

from enoughcharge.errors import InvalidEvent, NotUsable
from enoughcharge.eventtexts import event_line
from enoughcharge.machines import Machine
from enoughcharge.programclasses import Program
from enoughcharge.replaying import is_log, replayed
from tests.live import Live, random_event
from tests.samples import ANYTHING, COUNT, LATE, LOOP, NOTHING, SIXTY, TWICE, Checks
from tests.search import small_searches
from tests.test_machines import ASKS, NO_EVENTS, PROGRAMS

FIRST = ("machine", ASKS, 4)
EVENTS = (("note", "a"), ("charge", 0), ("on", 2), ("off", 1), ("step", (3,)), ("step", ()), ("fall",), ("charge", SIXTY))


class LogTest(Checks):
    def test_logs_of_machines(self):
        machine = Machine(ASKS, 4)
        for at, event in enumerate(EVENTS):
            self.same(machine.log(), (FIRST,) + EVENTS[:at])
            machine.go(event)
        self.same(machine.log(), (FIRST,) + EVENTS)
        # The program and the charge of the beginning are told, though others hold now.
        self.assertNotEqual((machine.program_now, machine.charge_now), FIRST[1:])
        self.assertIsNot(machine.log(), machine.log())

    def test_text(self):
        machine = Machine(ASKS, 4)
        self.same(str(machine), "-")
        machine.do_all(*EVENTS)
        self.same(str(machine), "note a / charge 0 / on 2 / off 1 / step 3 / step - / fall / charge " + "9" * 60)
        machine.undo()
        self.same(str(machine), " / ".join([event_line(event) for event in EVENTS[:-1]]))
        self.same([str(Machine(NOTHING, 0)), str(Machine(LOOP, 7))], ["-", "-"])

    def test_is_log(self):
        for program in PROGRAMS:
            for charge in (0, 5, SIXTY):
                self.assertIs(is_log(Machine(program, charge).log()), True)
                # Its events need not be possible.
                for events in (EVENTS, EVENTS * 9, (("fall",),) * 50, (("off", SIXTY), ("step", (SIXTY,)), ("on", 0), ("note", "a"), ("note", "a"))):
                    self.assertIs(is_log((("machine", program, charge),) + events), True)
        self.assertIs(is_log(thing=(FIRST,)), True)

    def test_what_is_no_log(self):
        for thing in ANYTHING + (
            FIRST, [FIRST], (list(FIRST),), ("machine",), (FIRST[:2],), (FIRST + (0,),), (("Machine",) + FIRST[1:],), (("machine", ASKS, -1),), (("machine", ASKS, True),),
            (("machine", ASKS, None),), (("machine", ASKS, "4"),), (("machine", 4, ASKS),), (("machine", list(ASKS), 4),), (("machine", ASKS[:2], 4),),
            (("machine", Program(*ASKS), 4),), (("machine", (ASKS[0], ASKS[1][:-1], ASKS[2]), 4),), (("machine", (ASKS[0], (), ()), 4),),
            (("machine", (ASKS[0][::-1], ASKS[1], ASKS[2]), 4),), (("machine", (ASKS[0], ASKS[1], ("q",)), 4),), (("machine", None, 4),), (("fall",), FIRST), (FIRST, FIRST),
            ((None, ASKS, 4),), (FIRST, EVENTS), Machine(ASKS, 4), str(Machine(ASKS, 4)), (("machine", ((), (("jump", 1, 1),), ()), 4),),
        ) + tuple((FIRST, event) for event in NO_EVENTS) + tuple((FIRST, ("fall",), event, ("fall",)) for event in NO_EVENTS):
            self.assertIs(is_log(thing), False)
            with self.assertRaises(NotUsable) as caught:
                replayed(thing)
            self.same(vars(caught.exception), {"word": "log", "at": -1})


class ReplayedTest(Checks):
    def is_equal(self, machine):
        log = machine.log()
        other = replayed(log)
        self.assertIs(other.__class__, Machine)
        self.assertIsNot(other, machine)
        self.assertTrue(other == machine and replayed(log=log) == machine)
        self.same(other.tally(), (0, 0))
        for name in ("program_now", "charge_now", "moment_now", "spent_now", "run_now", "can_fall", "width_here", "steps_now", "falls_left", "answers_left", "wrong_left"):
            self.same(getattr(other, name), getattr(machine, name))
        self.same([other.log(), str(other), len(other), other.table()], [log, str(machine), len(machine), machine.table()])
        return other

    def test_equal(self):
        machine = Machine(ASKS, 4)
        self.is_equal(machine)
        for event in EVENTS:
            machine.go(event)
            self.is_equal(machine)
        other = self.is_equal(machine)
        self.same([other.undo(), other.tally(), other.moment_at("a"), other.falls_since("a")], [("charge", SIXTY), (1, 1), ((0, (500,)), 0, (0, 500, 1)), 1])
        self.assertFalse(other == machine)

    def test_forty_events(self):
        machine = Machine(LATE, 0)
        machine.do_all(*(("fall",),) * 40)
        self.is_equal(machine)
        with self.assertRaises(InvalidEvent) as caught:
            replayed(machine.log() + (("note", "a"),))
        self.same(vars(caught.exception), {"event": ("note", "a"), "reason": "full"})

    def test_the_first_error(self):
        for first, events, at, reason in (
            (("machine", TWICE, 5), (("fall",), ("step", ())), 0, "charge"), (("machine", TWICE, 5), (("step", ()), ("step", (0,)), ("fall",)), 1, "step"),
            (("machine", TWICE, 5), (("charge", 5), ("charge", 5)), 0, "same"), (("machine", LATE, 0), (("off", 1), ("on", 1), ("on", 1)), 2, "place"),
            (("machine", LATE, 0), (("note", "a"), ("step", ()), ("note", "b"), ("note", "a"), ("off", 1)), 3, "twice"),
            (("machine", LATE, 0), (("step", ()), ("off", 1), ("step", (1,))), 1, "fresh"), (("machine", NOTHING, 0), (("fall",),), 0, "over"),
            (("machine", COUNT, 3), (("step", ()),) * 8, 7, "over"),
        ):
            log = (first,) + events
            with self.assertRaises(InvalidEvent) as caught:
                replayed(log)
            self.assertIs(caught.exception.event, events[at])
            self.same(caught.exception.reason, reason)
            self.assertIs(is_log(log), True)

    def test_random_machines(self):
        pick = random.Random(221)
        for search in small_searches(222, 60, 40):
            live = Live(search.program, pick.randrange(10))
            machine = Machine(search.program, live.charge)
            for _ in range(30):
                event = random_event(pick, live)
                if live.reason(event) is None:
                    machine.go(event)
                    live.apply(event)
            self.same(machine.log(), live.log())
            self.is_equal(machine)
