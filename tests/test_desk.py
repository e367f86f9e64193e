"""[74] to [76]: a desk."""

import random

from enoughcharge.desk import Desk
from enoughcharge.errors import ChargeError, InvalidEvent, InvalidPaper, InvalidRow, NotUsable, NothingToUndo
from enoughcharge.eventtexts import event_line, log_lines
from enoughcharge.machines import Machine
from enoughcharge.programtexts import program_text
from tests.live import Live, random_event
from tests.samples import ANYTHING, COUNT, LATE, LOOP, NOTHING, SIXTY, TWICE, Checks
from tests.search import small_searches
from tests.test_answers import ASKED
from tests.test_eventtexts import LINES
from tests.test_machines import ASKS

NINES = "9" * 60
PLAIN_ROWS = ("undo", "events", "log", "charge", "spent", "width", "left", "can", "place", "steps", "answers", "wrong", "falls", "cells", "table", "program")
KNOWN_ROWS = PLAIN_ROWS + tuple(line for _, line in LINES) + tuple("bars " + line for _, line in LINES) + ("cell a", "since a")
NO_ROWS = (
    "", " ", "\n", "x", "Undo", "undo ", " undo", "undo\n", "\nundo", "undo 1", "events 1", "log\n", "logs", "charges", "charge ", "charge -", "charge x", "charge 01",
    "charge 5 5", "charge\n", "charge " + "9" * 61, "spent 1", "width\n", "left ", "can 1", "place 0", "step", "steps ", "step x", "step - -", "step  -", "step ()", "step -1",
    "fall ", "fall 1", "fall\n", "fall\nfall", "Fall", "off", "off -", "off 07", "off x", "on", "on 1 1", "note", "note ", "note A", "note ninechars", "note a b", "note a\n",
    "answers ", "answer", "wrong 1", "falls 1", "cells a", "table ", "program\n", "bars", "bars ", "bars x", "bars undo", "bars log", "bars bars fall", "bars fall ",
    "bars step", "bars off 07", "bars  fall", "bars fall\n", "bars machine 6 5", "bars charge", "cell", "cell ", "cell A", "cell a b", "cell  a", "cell a ", "cell a\n", "cell 1",
    "cell ninechars", "cell -", "since", "since ", "since A", "since a b", "since a\n", "since 0", "machine", "machine 6", "machine 6 5", "machine 6 0", "machine 6 5\n",
    "told -", "end", "ok", "none", "-", "is_log", "tally", "machine 6 2\ntold -\nend\n", "\nmachine 6 2\ntold -\nend", "machine 6 2\ntold -\nend\nfall",
    "machine 6 2\ntold -\nend\nstep -\nfall", "machine 6 2\ntold -", "machine 6 1\ntold -\nend", "machine 6 3\ntold -\nend", "machine 6 2\ntold -\n\nend", "machine 06 2\ntold -\nend",
    "machine 6 2 \ntold -\nend", "machine x 2\ntold -\nend", "machine -1 2\ntold -\nend", "machine 6 2\ntold b,a\nend", "machine 6 2\ntold -\nmark 0",
    "Machine 6 2\ntold -\nend", "machine 6 2 / told - / end",
)


def first_lines(program, charge):
    """The row that makes a new machine."""
    return "\n".join(log_lines((("machine", program, charge),)))


class DeskChecks(Checks):
    def desk(self, program, charge, *rows):
        desk = Desk()
        self.same(desk.say(first_lines(program, charge)), "ok")
        for row in rows:
            desk.say(row)
        return desk

    def says(self, desk, *pairs):
        for row, answer in pairs:
            self.same((row, desk.say(row)), (row, answer))

    def raises(self, error, fields, desk, row):
        with self.assertRaises(error) as caught:
            desk.say(row)
        self.assertIs(caught.exception.__class__, error)
        self.same(vars(caught.exception), fields)


class BeginningTest(DeskChecks):
    def test_rows_before_the_first_machine(self):
        desk = Desk()
        for row in KNOWN_ROWS + NO_ROWS:
            self.raises(InvalidRow, {"row": row}, desk, row)
        self.same(desk.tally(), (len(KNOWN_ROWS) + len(NO_ROWS),) * 2)
        self.says(desk, (first_lines(LATE, 6), "ok"), ("events", "0"))

    def test_new_machines(self):
        desk = Desk()
        for program in (COUNT, TWICE, LATE, LOOP, NOTHING, ASKS):
            for charge in (0, 7, SIXTY):
                row = first_lines(program, charge)
                self.says(desk, (row, "ok"), ("events", "0"), ("log", "-"), ("falls", "0"), ("charge", str(charge)), ("program", program_text(program).replace("\n", " / ")))
                desk.say("note a")
                self.same(desk.say("log"), "note a")
        self.same(Desk().say(row=first_lines(NOTHING, 0)), "ok")

    def test_machines_that_raise_an_error(self):
        for lines, word, at in (
            (["cell b kept 1 0", "cell a kept 1 0", "told -", "end"], "cell", 1), (["cell a kept 1 0", "cell a kept 1 0", "told -", "end"], "cell", 1),
            (["told -", "jump 1 1"], "place", 0), (["told -", "mark 1"], "last", -1), (["told n", "end"], "told", -1), (["told -", "ask n 1", "end"], "cell", 0),
            (["cell q quick 1 0", "told q", "end"], "told", -1), (["told -", "end", "set a b 1", "end"], "cell", 1),
        ):
            row = "\n".join([f"machine 6 {len(lines)}"] + lines)
            empty, desk = Desk(), self.desk(TWICE, 5, "step -")
            self.raises(InvalidPaper, {"word": word, "at": at}, empty, row)
            self.raises(InvalidRow, {"row": "events"}, empty, "events")
            self.raises(InvalidPaper, {"word": word, "at": at}, desk, row)
            self.says(desk, ("log", "step -"), ("spent", "1"), ("undo", "step -"))

    def test_what_is_no_string(self):
        for desk in (Desk(), self.desk(LATE, 6)):
            many = desk.tally()[0]
            for thing in ANYTHING:
                if not isinstance(thing, str):
                    self.raises(NotUsable, {"word": "row", "at": -1}, desk, thing)
                    many += 1
            self.same(desk.tally(), (many, many))


class RowTest(DeskChecks):
    def test_events(self):
        desk = self.desk(ASKS, 0)
        self.says(desk, ("charge 4", "-"), ("note begin", "-"), ("off 1", "-"), ("on 1", "-"), ("on 2", "-"), ("off 2", "-"), ("charge", "4"), ("step 3", "2"), ("step -", "3"),
                  ("step -", "0"), ("spent", "5"), ("step -", "5"), ("fall", "10"), ("falls", "1"), ("since begin", "1"), ("events", "11"),
                  ("can", "no"))
        self.same(desk.say("log"), "charge 4 / note begin / off 1 / on 1 / on 2 / off 2 / step 3 / step - / step - / step - / fall")

    def test_undo(self):
        desk = self.desk(ASKS, 0, "note a", "charge 1", "off 1", "on 2", "step 3", "step -", "step -", "note b")
        self.says(desk, ("undo", "note b"), ("undo", "step -"), ("undo", "step -"), ("undo", "step 3"), ("undo", "on 2"), ("undo", "off 1"), ("undo", "charge 1"), ("undo", "note a"))
        for _ in range(2):
            self.raises(NothingToUndo, {"steps": 0}, desk, "undo")
        self.says(desk, ("events", "0"), ("log", "-"), ("fall", "1"), ("undo", "fall"), ("falls", "0"))

    def test_bars(self):
        desk = self.desk(TWICE, 6)
        self.says(desk, ("bars fall", "charge"), ("bars step -", "-"), ("bars step 0", "step"), ("bars charge 6", "same"), ("bars charge 7", "-"), ("bars off 0", "place"),
                  ("bars on " + NINES, "place"), ("bars note a", "-"), ("note a", "-"), ("bars note a", "twice"), ("step -", "1"), ("bars charge 6", "fresh"), ("step -", "5"),
                  ("bars fall", "over"), ("bars step -", "over"), ("events", "3"))
        full = self.desk(TWICE, 0, *["fall"] * 40)
        self.says(full, ("bars fall", "full"), ("bars note a", "full"), ("events", "40"), ("falls", "40"))

    def test_numbers(self):
        desk = self.desk(TWICE, 6)
        self.says(desk, ("events", "0"), ("charge", "6"), ("spent", "0"), ("width", "0"), ("left", "0"), ("can", "no"), ("place", "0"), ("falls", "0"), ("charge 5", "-"),
                  ("left", "-"), ("charge", "5"), ("step -", "1"), ("width", "5"), ("can", "yes"), ("place", "1"), ("spent", "1"), ("fall", "5"), ("falls", "1"), ("place", "0"),
                  ("step -", "1"), ("step -", "5"), ("width", "-"), ("can", "no"), ("left", "0"), ("place", "2"), ("spent", "6"), ("events", "5"))
        self.says(self.desk(NOTHING, SIXTY), ("charge", NINES), ("width", "-"), ("left", "0"))
        self.says(self.desk(COUNT, 3), ("left", "2"))

    def test_steps_answers_and_wrong(self):
        desk = self.desk(ASKS, 9)
        self.says(desk, ("steps", "0 1 2 3"), ("answers", "(0) (1) (2) (3)"), ("wrong", "-"), ("step 2", "2"), ("steps", "-"), ("answers", "(2)"))
        self.says(self.desk(NOTHING, 0), ("steps", "none"), ("answers", "()"), ("wrong", "-"))
        self.says(self.desk(LOOP, 3), ("steps", "-"), ("answers", "-"), ("wrong", "-"))
        desk = self.desk(TWICE, 5)
        self.says(desk, ("answers", "(0) (1) (2) (3)"), ("wrong", "(0) (2) (3)"), ("step -", "1"), ("fall", "5"), ("charge 6", "-"), ("answers", "(2)"), ("wrong", "(2)"),
                  ("step -", "1"), ("step -", "5"), ("steps", "none"), ("answers", "(2)"))
        self.says(self.desk(ASKED, 9), ("answers", " ".join(f"({a},{b})" for a in range(3) for b in range(4))), ("wrong", "-"))
        self.says(self.desk((LATE[0], LATE[1], ()), 0), ("answers", "()"), ("wrong", "-"), ("steps", "-"))

    def test_cells(self):
        desk = self.desk(ASKS, 0)
        self.says(desk, ("cells", "a@0 longname@500 q@1"), ("step 3", "2"), ("cells", "a@3 longname@500 q@1"), ("cell a", "3"), ("cell longname", "500"), ("cell q", "1"))
        for name in ("b", "aa", "cell", "cells", "fall"):
            self.raises(NotUsable, {"word": "name", "at": -1}, desk, "cell " + name)
        nothing = self.desk(NOTHING, 0)
        self.says(nothing, ("cells", "-"), ("table", "-"), ("program", "told - / end"))
        self.raises(NotUsable, {"word": "name", "at": -1}, nothing, "cell a")

    def test_since(self):
        desk = self.desk(TWICE, 0, "note a", "fall", "fall", "note b", "note cell", "fall")
        self.says(desk, ("since a", "3"), ("since b", "1"), ("since cell", "1"))
        for name in ("c", "x", "aa"):
            self.raises(NotUsable, {"word": "name", "at": -1}, desk, "since " + name)

    def test_table_and_program(self):
        desk = self.desk(ASKS, 0, "off 1", "step 3")
        self.says(desk, ("table", "a        kept    3   3 / longname saved 500 500 / q        quick   1   1"),
                  ("program", "cell a kept 3 0 / cell longname saved 1000 500 / cell q quick 2 1 / told a / ask a 2 / off 3 / off 4 / set q 2 5 / set longname 7 1 / end"))

    def test_errors_of_the_machine(self):
        desk = self.desk(TWICE, 6)
        for row, event, reason in (("fall", ("fall",), "charge"), ("step 0", ("step", (0,)), "step"), ("charge 6", ("charge", 6), "same"), ("off 0", ("off", 0), "place"),
                                   ("on 9", ("on", 9), "place")):
            self.raises(InvalidEvent, {"event": event, "reason": reason}, desk, row)
        self.says(desk, ("note a", "-"), ("step -", "1"))
        for row, event, reason in (("note a", ("note", "a"), "twice"), ("charge 6", ("charge", 6), "fresh"), ("off 0", ("off", 0), "fresh")):
            self.raises(InvalidEvent, {"event": event, "reason": reason}, desk, row)
        self.says(desk, ("log", "note a / step -"))


class NoRowTest(DeskChecks):
    def test_rows_that_are_none(self):
        for desk in (self.desk(TWICE, 6, "note a"), self.desk(NOTHING, 0, "note a")):
            kept = [desk.say(row) for row in PLAIN_ROWS[1:]]
            for row in NO_ROWS:
                self.raises(InvalidRow, {"row": row}, desk, row)
            self.same([desk.say(row) for row in PLAIN_ROWS[1:]], kept)

    def test_no_row_ahead_of_other_errors(self):
        # At the end nothing can be done or undone, and the rows would raise.
        desk = self.desk(NOTHING, 0)
        for row in ("undo x", "fall x", "step 0 0", "cell A", "since 9", "cell a b"):
            self.raises(InvalidRow, {"row": row}, desk, row)


class TallyTest(DeskChecks):
    def test_also_rows_that_raise(self):
        desk = Desk()
        self.same(desk.tally(), (0, 0))
        rows = ["events", first_lines(LATE, 6), "fall", "step -", "x", "undo", "undo", "machine 6 2\ntold -\nmark 1", "cell b", "since a", "log", "bars fall", None]
        for at, row in enumerate(rows):
            try:
                desk.say(row)
            except ChargeError:
                pass
            self.same([desk.tally(), desk.tally()], [(at + 1, at + 1)] * 2)
        self.same(Desk().tally(), (0, 0))


class RandomTest(DeskChecks):
    def test_beside_a_machine(self):
        pick = random.Random(241)
        for search in small_searches(242, 80, 40):
            live = Live(search.program, pick.randrange(12))
            desk = self.desk(search.program, live.charge)
            machine = Machine(search.program, live.charge)
            for _ in range(20):
                event = random_event(pick, live)
                reason = live.reason(event)
                self.says(desk, ("bars " + event_line(event), reason or "-"))
                if reason:
                    self.raises(InvalidEvent, {"event": event, "reason": reason}, desk, event_line(event))
                else:
                    machine.go(event)
                    answer = live.apply(event)
                    self.says(desk, (event_line(event), "-" if answer is None else str(answer)))
                self.tells(desk, live, machine)

    def tells(self, desk, live, machine):
        def or_minus(thing):
            return "-" if thing is None or thing == "" else str(thing)
        names = [cell[0] for cell in live.model.cells]
        steps = [or_minus(",".join(str(value) for value in step)) for step in live.model.choices()]
        self.says(
            desk, ("events", str(len(live.events))), ("log", or_minus(" / ".join(event_line(event) for event in live.events))), ("charge", str(live.charge)),
            ("spent", str(live.model.spent)), ("width", or_minus(live.width())), ("left", or_minus(machine.falls_left)), ("place", str(live.model.place)),
            ("can", "yes" if live.width() is not None and live.width() >= live.charge else "no"), ("steps", " ".join(steps) or "none"),
            ("falls", str(len(live.stretches) - 1)), ("cells", or_minus(" ".join(f"{name}@{live.model.now[name]}" for name in names))),
            ("answers", or_minus(" ".join("(" + ",".join(map(str, answer)) + ")" for answer in machine.answers_left))),
            ("wrong", or_minus(" ".join("(" + ",".join(map(str, answer)) + ")" for answer in machine.wrong_left))),
            ("table", or_minus(" / ".join(machine.table()))), ("program", program_text(live.program()).replace("\n", " / ")),
            *[("cell " + name, str(live.model.now[name])) for name in names],
            *[("since " + name, str(len(live.stretches) - 1 - falls)) for name, (_, falls) in live.notes.items()],
        )
