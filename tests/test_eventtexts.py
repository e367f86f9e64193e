"""[72]: events and logs written as lines."""

from enoughcharge.errors import NotUsable
from enoughcharge.eventreadings import read_log
from enoughcharge.eventtexts import event_line, log_lines
from enoughcharge.machines import Machine
from enoughcharge.programclasses import Program
from enoughcharge.programtexts import program_text
from tests.samples import ANYTHING, LATE, MIXED, NOTHING, SIXTY, Checks
from tests.test_machines import NO_EVENTS, PROGRAMS

LINES = (
    (("step", ()), "step -"), (("step", (0,)), "step 0"), (("step", (17,)), "step 17"), (("step", (SIXTY,)), "step " + "9" * 60), (("fall",), "fall"),
    (("charge", 0), "charge 0"), (("charge", 120), "charge 120"), (("off", 0), "off 0"), (("off", SIXTY), "off " + "9" * 60), (("on", 13), "on 13"),
    (("note", "a"), "note a"), (("note", "abcdefgh"), "note abcdefgh"), (("note", "fall"), "note fall"),
)


class EventLineTest(Checks):
    def test_lines(self):
        for event, line in LINES:
            self.same(event_line(event), line)
            self.same(event_line(event=event), line)
        self.same(event_line(("charge", 10 ** 5000)), "charge 1" + "0" * 5000)
        self.same(event_line(("step", (10 ** 5000,))), "step 1" + "0" * 5000)

    def test_what_is_no_event(self):
        for thing in NO_EVENTS:
            self.refused(NotUsable, {"word": "event", "at": -1}, event_line, thing)


class LogLinesTest(Checks):
    def test_lines_of_logs(self):
        for program in PROGRAMS:
            lines = program_text(program).split("\n")
            for charge in (0, 6, SIXTY):
                first = ("machine", program, charge)
                wanted = [f"machine {charge} {len(lines)}"] + lines
                for log, more in (((first,), []), ((first,) + tuple(event for event, _ in LINES), [line for _, line in LINES])):
                    self.same(log_lines(log), wanted + more)
                    self.same(log_lines(log=log), wanted + more)
        self.same(log_lines(Machine(NOTHING, 3).log()), ["machine 3 2", "told -", "end"])
        self.same(log_lines((("machine", LATE, 6), ("off", 1))), ["machine 6 5", "cell s saved 1 0", "told s", "set s 1 6", "mark 1", "end", "off 1"])

    def test_what_is_read_need_be_no_program(self):
        lines = ["machine 5 6", "cell b kept 3 0", "cell a quick 1 1", "cell a saved 2 0", "told c,d", "set z plus(y,1) 3", "jump 99 1", "fall", "step 7"]
        log = read_log(lines)
        self.same(log_lines(log), lines)

    def test_what_is_no_log(self):
        first = ("machine", MIXED, 4)
        for thing in ANYTHING + (
            first, [first], (list(first),), (first[:2],), (first + (0,),), (("Machine",) + first[1:],), (("machine", MIXED, -1),), (("machine", MIXED, True),),
            (("machine", list(MIXED), 4),), (("machine", MIXED[:2], 4),), (("machine", MIXED + ((),), 4),), (("machine", Program(*MIXED), 4),),
            (("machine", (MIXED[0], (), ()), 4),), (("machine", (MIXED[0], list(MIXED[1]), ()), 4),), (("machine", (MIXED[0], MIXED[1] + (None,), ()), 4),),
            (("machine", (MIXED[0], (("mark", 0),), ()), 4),), (("machine", ((("a", "kept", 1, 2),), MIXED[1], ()), 4),), (("machine", ((None,), MIXED[1], ()), 4),),
            (("machine", ((), MIXED[1], ("b", "a")), 4),), (("machine", ((), MIXED[1], ("a", "a")), 4),), (("machine", ((), MIXED[1], (1,)), 4),),
            (("machine", ((), MIXED[1], ["a"]), 4),), (("machine", None, 4),), (("fall",), first), (first, first), Machine(MIXED, 4),
        ) + tuple((first, event) for event in NO_EVENTS):
            self.refused_log(thing)

    def refused_log(self, thing):
        with self.assertRaises(NotUsable) as caught:
            log_lines(thing)
        self.same(vars(caught.exception), {"word": "log", "at": -1})
