"""[73]: events and logs read from lines."""

import random

from enoughcharge.errors import InvalidText, NotUsable
from enoughcharge.eventreadings import read_event, read_log
from enoughcharge.eventtexts import event_line, log_lines
from enoughcharge.programreadings import program_read
from enoughcharge.programtexts import program_text
from tests.model import random_program
from tests.samples import ANYTHING, LATE, NOTHING, SIXTY, Checks
from tests.test_eventtexts import LINES
from tests.test_machines import PROGRAMS

NINES = "9" * 60
NO_NUMBERS = ("", "x", "-1", "+1", "00", "01", "1_0", "1.0", "1,0", "(1)", "9" * 61, "0" * 60, "1\n", "\n1", "1x", "a1", "--", "-\n", "\n", "none")
NO_NAMES = ("", "A", "a1", "ninechars", "a_b", "a\n", "\na", "-", "1", "a,b", "\n", "aB")
BODY = program_text(LATE).split("\n")
GOOD = ["machine 6 5"] + BODY


class TextChecks(Checks):
    def unread(self, field, text):
        self.refused(InvalidText, {"line": 0, "field": field}, read_event, text)
        self.refused(InvalidText, {"line": 0, "field": field}, read_event, text=text)
        # As a line of a log it is refused where it stands.
        if "\n" not in text:
            self.refused(InvalidText, {"line": 6, "field": field}, read_log, GOOD + [text])
            self.refused(InvalidText, {"line": 8, "field": field}, read_log, GOOD + ["fall", "step -", text, "nothing"])

    def no_log(self, line, field, lines):
        self.refused(InvalidText, {"line": line, "field": field}, read_log, lines)
        self.refused(InvalidText, {"line": line, "field": field}, read_log, lines=lines)


class ReadEventTest(TextChecks):
    def test_what_is_written(self):
        for event, line in LINES:
            self.same(read_event(line), event)
            self.same(read_event(text=line), event)
            self.same(event_line(read_event(line)), line)

    def test_words_that_cannot_stand(self):
        for word in ("", "x", "Step", "step\n", "\nstep", "steps", "jump", "end", "machine", "undo", "1", "-"):
            self.unread(0, word)
            self.unread(0, word + " 1")
        for word in ("step", "charge", "off", "on"):
            for number in NO_NUMBERS:
                self.unread(1, f"{word} {number}")
                self.unread(1, f"{word} {number} 1")
        for number in ("-",):
            for word in ("charge", "off", "on"):
                self.unread(1, f"{word} {number}")
        for name in NO_NAMES:
            self.unread(1, f"note {name}")
            self.unread(1, f"note {name} a")

    def test_numbers(self):
        for number in ("0", "7", "10", "1" + "0" * 59, NINES):
            self.same([read_event(f"{word} {number}") for word in ("charge", "off", "on", "step")],
                      [("charge", int(number)), ("off", int(number)), ("on", int(number)), ("step", (int(number),))])

    def test_missing_words_and_words_too_many(self):
        for word in ("step", "charge", "off", "on", "note"):
            self.unread(1, word)
            self.unread(1, word + " ")
        for line in ("step -", "step 3", "charge 5", "off 1", "on 1", "note a"):
            for more in (" ", " 1", " a", " - -", "  "):
                self.unread(2, line + more)
        for more in (" ", " 1", " fall", " - -", "  "):
            self.unread(1, "fall" + more)
        for line in (" fall", "  step -", " step -"):
            self.unread(0, line)
        self.unread(1, "step  -")
        self.unread(1, "fall\n".strip() + " \n")
        self.unread(0, "fall\n")
        self.unread(0, "fall\nstep -")
        self.unread(1, "step -\nfall")

    def test_what_is_no_string(self):
        for thing in ANYTHING + (["fall"], ("fall",), b"fall"):
            if not isinstance(thing, str):
                self.refused(NotUsable, {"word": "text", "at": -1}, read_event, thing)


class ReadLogTest(TextChecks):
    def test_what_is_written(self):
        for program in PROGRAMS:
            for charge in (0, 7, SIXTY):
                for events in ((), tuple(event for event, _ in LINES), (("fall",),) * 60):
                    log = (("machine", program, charge),) + events
                    self.same(read_log(log_lines(log)), log)
                    self.same(read_log(lines=log_lines(log)), log)

    def test_the_program_need_be_none(self):
        lines = ["cell b kept 3 0", "cell a quick 1 1", "cell a saved 2 0", "told c,d", "set z plus(y,1) 3", "jump 99 1"]
        log = read_log(["machine 5 6"] + lines + ["fall", "step 7"])
        self.same(log, (("machine", program_read("\n".join(lines)), 5), ("fall",), ("step", (7,))))

    def test_the_first_line(self):
        self.no_log(0, 0, [])
        for word in ("", "x", "Machine", "machines", "fall", "told", "cell"):
            self.no_log(0, 0, [word])
            self.no_log(0, 0, [word + " 6 5"] + BODY)
        for number in [number for number in NO_NUMBERS if "\n" not in number] + ["-", "n"]:
            self.no_log(0, 1, [f"machine {number}"])
            self.no_log(0, 1, [f"machine {number} 5"] + BODY)
            self.no_log(0, 1, [f"machine {number} x"] + BODY)
            self.no_log(0, 2, [f"machine 6 {number}"] + BODY)
            self.no_log(0, 2, [f"machine 6 {number} 1"] + BODY)
        for line, field in (("machine", 1), ("machine 6", 2), ("machine ", 1), ("machine 6 ", 2), ("machine  6 5", 1), (" machine 6 5", 0), ("machine 6 5 ", 3),
                            ("machine 6 5 1", 3), ("machine 6  5", 2)):
            self.no_log(0, field, [line] + BODY)
            self.no_log(0, field, [line])
        self.same(read_log([f"machine {NINES} 5"] + BODY), (("machine", LATE, SIXTY),))

    def test_the_number_of_lines(self):
        for many in range(1, 6):
            self.no_log(many, 0, GOOD[:many])
        # With N too great the events are taken for lines of the program.
        for more in (6, 7, 99, SIXTY):
            self.no_log(6, 0, [f"machine 6 {more}"] + BODY)
            self.no_log(6, 0, [f"machine 6 {more}"] + BODY + ["fall"])
        self.no_log(7, 0, ["machine 6 7"] + BODY + ["off 1"])
        self.no_log(7, 0, ["machine 6 6"] + BODY + ["off 1", "end"])
        self.same(read_log(["machine 6 6"] + BODY + ["off 1"]), (("machine", (LATE[0], LATE[1] + (("off", 1),), LATE[2]), 6),))
        # With N too small the last lines are taken for events, or the program has no instruction.
        self.no_log(5, 0, ["machine 6 4"] + BODY)
        self.no_log(5, 1, ["machine 6 4"] + BODY[:4] + ["off"])
        self.no_log(4, 0, ["machine 6 3"] + BODY)
        self.no_log(3, 0, ["machine 6 2"] + BODY)
        self.no_log(2, 0, ["machine 6 1"] + BODY)
        self.no_log(1, 0, ["machine 6 0"] + BODY)
        self.no_log(1, 0, ["machine 6 0"])
        self.no_log(1, 0, ["machine 0 0", "fall"])
        self.same(read_log(["machine 6 3"] + BODY[:3] + ["fall"]), (("machine", (LATE[0], LATE[1][:1], LATE[2]), 6), ("fall",)))

    def test_lines_of_no_program(self):
        for line, field, body in (
            (1, 0, ["", "told -", "end"]), (2, 0, ["told -", "", "end"]), (3, 0, ["told -", "end", ""]), (1, 0, ["end", "told -"]), (1, 4, ["cell n kept 3 4", "told -", "end"]),
            (2, 0, ["told -", "cell n kept 3 0", "end"]), (1, 1, ["told b,a", "end"]), (2, 3, ["told -", "set n 1 0", "end"]), (2, 0, ["told -", "fall", "end"]),
            (2, 0, ["told -", "told -", "end"]), (3, 0, ["cell n kept 3 0", "told n"]), (2, 0, ["cell n kept 3 0"]), (2, 0, ["told -"]), (3, 1, ["told -", "end", "end "]),
            (2, 2, ["told -", "jump 0", "end"]), (2, 3, ["told -", "jump 0 1 1", "end"]),
        ):
            for events in ([], ["fall"], ["nothing"]):
                self.no_log(line, field, [f"machine 6 {len(body)}"] + body + events)

    def test_the_first_line_that_is_not_possible(self):
        # What is missing counts behind what is there.
        self.no_log(2, 0, ["machine 6 9", "told -", "nothing"])
        self.no_log(3, 0, ["machine 6 9", "told -", "end"])
        self.no_log(2, 0, ["machine 6 3", "told -"])
        self.no_log(2, 0, ["machine 6 3", "cell n kept 3 0"])
        self.no_log(1, 0, ["machine 6 3"])
        self.no_log(1, 0, ["machine 6 3", ""])
        self.no_log(6, 1, GOOD + ["off 07", "nothing"])
        self.no_log(7, 0, GOOD + ["fall", "", "off 07"])
        self.no_log(1, 0, ["machine 6 5", "nothing"] + ["off 07"] * 5)

    def test_nothing_else_is_checked(self):
        log = read_log(GOOD + ["fall", "step 99", "on 1", "on 1", "note a", "note a", "charge 6"] + ["fall"] * 50)
        self.same([len(log), log[2]], [58, ("step", (99,))])

    def test_what_is_no_list_of_lines(self):
        for thing in ANYTHING + (tuple(GOOD), "\n".join(GOOD), [None], GOOD + [7], GOOD + [b"fall"], [GOOD], GOOD + ["fall\n"], ["machine 6 5\n"] + BODY, ["\n".join(GOOD)]):
            if thing not in ([], ["n"], ["end"]):
                self.refused(NotUsable, {"word": "lines", "at": -1}, read_log, thing)

    def test_random_programs(self):
        pick = random.Random(231)
        for _ in range(150):
            program = random_program(pick)
            events = tuple(pick.choice(LINES)[0] for _ in range(pick.randrange(6)))
            log = (("machine", program, pick.randrange(100)),) + events
            lines = log_lines(log)
            self.same(read_log(lines), log)
            at = pick.randrange(len(lines))
            words = lines[at].split(" ")
            field = pick.randrange(len(words))
            # A word that stands nowhere is refused at its own place.
            spoilt = lines[:at] + [" ".join(words[:field] + [".."] + words[field + 1:])] + lines[at + 1:]
            self.no_log(at, field, spoilt)
            wanted = 1 + len(program_text(program).split("\n"))
            for left in range(wanted):
                self.no_log(left, 0, lines[:left])
        self.same(read_log(["machine 0 2", "told -", "end"]), (("machine", NOTHING, 0),))
