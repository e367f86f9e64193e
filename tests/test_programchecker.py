"""[3], [12]: the checker of programs."""

from enoughcharge.errors import InvalidPaper
from enoughcharge.kinds import is_program
from enoughcharge.programchecker import lets_program
from tests.samples import ANYTHING, COUNT, LATE, LOOP, MIXED, NOTHING, SIXTY, TWICE, Checks, nested, with_changed

END = ("end",)
N = ("n", "kept", 3, 0)

# What a program is refused for: ahead of its told names, and in the order of the list.
FAULTS = (
    ("shape", -1, None), ("shape", -1, 3), ("shape", -1, "abc"), ("shape", -1, ()), ("shape", -1, COUNT[:2]),
    ("shape", -1, COUNT + ((),)), ("shape", -1, list(COUNT)), ("shape", -1, (list(COUNT[0]), COUNT[1], COUNT[2])),
    ("shape", -1, (COUNT[0], list(COUNT[1]), COUNT[2])), ("shape", -1, (COUNT[0], COUNT[1], list(COUNT[2]))),
    ("shape", -1, (COUNT[0], (), COUNT[2])), ("shape", -1, ((None,), (), (None,))), ("shape", -1, ("", "a", "")),
    ("cell", 0, ((None,), (END,), ())), ("cell", 0, ((list(N),), (END,), ())),
    ("cell", 0, ((("n", "kept", 3),), (END,), ())), ("cell", 0, ((N + (0,),), (END,), ())),
    ("cell", 0, ((("N", "kept", 3, 0),), (END,), ())), ("cell", 0, ((("n", "slow", 3, 0),), (END,), ())),
    ("cell", 0, ((("n", ["kept"], 3, 0),), (END,), ())), ("cell", 0, ((("n", "kept", True, 0),), (END,), ())),
    ("cell", 0, ((("n", "kept", 3, False),), (END,), ())), ("cell", 0, ((("n", "kept", -1, 0),), (END,), ())),
    ("cell", 0, ((("n", "kept", 3, -1),), (END,), ())), ("cell", 0, ((("n", "kept", "3", 0),), (END,), ())),
    ("cell", 1, ((N, N), (END,), ())), ("cell", 1, ((N, ("m", "kept", 3, 0)), (END,), ())),
    ("cell", 1, ((("ab", "kept", 1, 0), ("a", "kept", 1, 0)), (END,), ())),
    ("cell", 2, ((("a", "kept", 1, 0), ("b", "kept", 1, 0), ("b", "quick", 1, 0)), (END,), ())),
    ("start", 0, ((("n", "kept", 3, 4),), (END,), ())), ("start", 0, ((("n", "kept", 0, SIXTY),), (END,), ())),
    ("start", 1, ((N, ("o", "quick", 0, 1)), (END,), ())),
    ("word", 0, ((), (None,), ())), ("word", 0, ((), ((),), ())), ("word", 0, ((), (list(END),), ())),
    ("word", 0, ((), ("end",), ())), ("word", 0, ((), (("stop",),), ())), ("word", 0, ((), ((None,),), ())),
    ("word", 0, ((), ((["end"],),), ())), ("word", 0, ((), (("end", 1),), ())), ("word", 0, ((), (("jump", 0),), ())),
    ("word", 0, ((), (("jump", 0, 1, 1),), ())), ("word", 0, ((N,), (("set", "n", 1), END), ())),
    ("word", 0, ((N,), (("set", "n", 1, 1, 1), END), ())), ("word", 0, ((N,), (("ask", "n"), END), ())),
    ("word", 0, ((), (("unless", ("less", 1, 2), 0), END), ())), ("word", 1, ((), (END, ("mark",)), ())),
    ("word", 1, ((), (("mark", 1), ("off", 1, 1), END), ())),
    ("value", 0, ((N,), (("set", "n", -1, 1), END), ())), ("value", 0, ((N,), (("set", "n", True, 1), END), ())),
    ("value", 0, ((N,), (("set", "n", ("less", 1, 2), 1), END), ())),
    ("value", 0, ((N,), (("set", "n", ["plus", 1, 2], 1), END), ())),
    ("value", 0, ((N,), (("set", "n", nested("plus", None, 30), 1), END), ())),
    ("value", 0, ((N,), (("set", "n", 1, 0), END), ())), ("value", 0, ((N,), (("set", "n", 1, True), END), ())),
    ("value", 0, ((N,), (("ask", "n", 0), END), ())), ("value", 0, ((N,), (("ask", "n", "1"), END), ())),
    ("value", 0, ((), (("jump", 0, 0),), ())), ("value", 0, ((), (("jump", 0, -1),), ())),
    ("value", 0, ((), (("unless", 1, 0, 1), END), ())), ("value", 0, ((), (("unless", ("plus", 1, 2), 0, 1), END), ())),
    ("value", 0, ((), (("unless", ("less", 1, 2), 0, 0), END), ())),
    ("value", 1, ((), (("mark", 1), ("mark", 0), END), ())), ("value", 0, ((), (("off", 0), END), ())),
    ("value", 0, ((), (("mark", True), END), ())), ("value", 0, ((), (("off", None), END), ())),
    ("cell", 0, ((N,), (("set", "m", 1, 1), END), ())), ("cell", 0, ((N,), (("set", 1, 1, 1), END), ())),
    ("cell", 0, ((N,), (("set", ["n"], 1, 1), END), ())), ("cell", 0, ((N,), (("set", "N", 1, 1), END), ())),
    ("cell", 0, ((N,), (("set", "n", "m", 1), END), ())), ("cell", 0, ((), (("ask", "n", 1), END), ())),
    ("cell", 0, ((N,), (("ask", None, 1), END), ())), ("cell", 0, ((N,), (("set", "n", ("plus", "n", "plus"), 1), END), ())),
    ("cell", 0, ((N,), (("unless", ("less", "m", 2), 0, 1), END), ())),
    ("cell", 0, ((N,), (("unless", ("not", ("equal", "n", ("plus", 1, "less"))), 0, 1), END), ())),
    ("cell", 1, ((N,), (("ask", "n", 1), ("set", "n", nested("minus", "m", 30), 1), END), ())),
    ("place", 0, ((), (("jump", 1, 1),), ())), ("place", 0, ((), (("jump", -1, 1),), ())),
    ("place", 0, ((), (("jump", True, 1), END), ())), ("place", 0, ((), (("jump", "n", 1),), ())),
    ("place", 0, ((), (("jump", None, 1), END), ())), ("place", 0, ((), (("jump", [0], 1), END), ())),
    ("place", 0, ((), (("unless", ("less", 1, 2), 2, 1), END), ())),
    ("place", 0, ((), (("unless", ("less", 1, 2), False, 1), END), ())), ("place", 1, ((), (END, ("jump", SIXTY, 1)), ())),
    ("last", -1, ((), (("mark", 1),), ())), ("last", -1, ((), (END, ("off", 1)), ())),
    ("last", -1, ((N,), (("set", "n", 1, 1),), ("n",))), ("last", -1, ((N,), (("ask", "n", 1),), ())),
    ("last", -1, ((), (("unless", ("less", 1, 2), 0, 1),), ())),
    ("told", -1, ((N,), (END,), ("m",))), ("told", -1, ((N,), (END,), ("n", "n"))), ("told", -1, ((), (END,), ("n",))),
    ("told", -1, (TWICE[0], TWICE[1], ("q",))), ("told", -1, (TWICE[0], TWICE[1], ("q", "x"))),
    ("told", -1, (MIXED[0], MIXED[1], ("set", "kept"))), ("told", -1, ((N,), (END,), (None,))),
    ("told", -1, ((N,), (END,), (["n"],))), ("told", -1, ((N,), (END,), (0,))), ("told", -1, ((N,), (END,), ("",))),
)

# Parts that have each fault on their own, so that two of them can be put into one program.
BAD_CELLS = ((("cell", 1), (N, None)), (("start", 1), (N, ("o", "kept", 1, 2))))
BAD_LINES = (
    ("word", ("mark",)), ("value", ("mark", 0)), ("cell", ("ask", "m", 1)), ("place", ("jump", 9, 1)),
)
TWO_FAULTS = (
    ("cell", 0, ((("n", "kept", 3), ("o", "kept", 1, 2)), (END,), ())),
    ("start", 0, ((("n", "kept", 3, 4), None), (END,), ())),
    ("cell", 0, ((("n", "slow", 3, 4),), (END,), ())),
    ("cell", 1, ((("n", "kept", 3, 0), ("n", "kept", 3, 4)), (END,), ())),
    ("word", 0, ((N,), (("set", "m", -1), END), ())),
    ("value", 0, ((N,), (("set", "m", -1, 1), END), ())),
    ("value", 0, ((N,), (("ask", "m", 0), END), ())),
    ("value", 0, ((), (("jump", 9, 0),), ())),
    ("value", 0, ((), (("unless", ("less", "m", 1), 9, 0), END), ())),
    ("cell", 0, ((), (("unless", ("less", "m", 1), 9, 1), END), ())),
    ("last", -1, ((N,), (("mark", 1),), ("m",))),
    ("word", 1, ((N,), (END, ("mark",)), ("m",))),
)


class ProgramCheckerTest(Checks):
    def test_programs(self):
        for program, many in ((COUNT, 4), (TWICE, 3), (LATE, 3), (LOOP, 1), (NOTHING, 1), (MIXED, 8)):
            self.same(lets_program(program), many)
            self.same(lets_program(thing=program), many)

    def test_programs_at_the_edges(self):
        deep = ((N,), (("set", "n", nested("times", SIXTY, 30), SIXTY), END), ())
        wide = ((("a", "saved", SIXTY, SIXTY), ("ab", "kept", 0, 0), ("b", "quick", 0, 0)), (END,), ("a", "ab"))
        for program, many in ((deep, 2), (wide, 1), (((N,), (END, ("jump", 0, 1)), ()), 2)):
            self.same(lets_program(program), many)

    def test_example(self):
        self.same(lets_program(COUNT), 4)
        self.refused(InvalidPaper, {"word": "told", "at": -1}, lets_program, (TWICE[0], TWICE[1], ("q",)))

    def test_faults(self):
        for word, at, thing in FAULTS:
            with self.subTest(thing=thing):
                self.refused(InvalidPaper, {"word": word, "at": at}, lets_program, thing)

    def test_two_faults(self):
        for word, at, thing in TWO_FAULTS:
            with self.subTest(thing=thing):
                self.refused(InvalidPaper, {"word": word, "at": at}, lets_program, thing)

    def test_cells_come_before_code(self):
        for (word, at), cells in BAD_CELLS:
            for _, line in BAD_LINES:
                self.refused(InvalidPaper, {"word": word, "at": at}, lets_program, (cells, (line,), ("q",)))

    def test_all_checks_of_an_instruction_come_before_those_of_the_next(self):
        for word, line in BAD_LINES:
            for _, other in BAD_LINES:
                self.refused(InvalidPaper, {"word": word, "at": 1}, lets_program, ((N,), (END, line, other), ("q",)))

    def test_is_program_tells_the_same(self):
        for thing in ANYTHING + tuple(thing for _, _, thing in FAULTS + TWO_FAULTS):
            try:
                lets_program(thing)
                self.assertIs(is_program(thing), True)
            except InvalidPaper:
                self.assertIs(is_program(thing), False)

    def test_each_place_of_a_program_spoilt(self):
        for at in range(len(MIXED[1])):
            for wrong in (None, (), [], ("end", 1), list(MIXED[1][at])):
                thing = (MIXED[0], with_changed(MIXED[1], at, wrong), MIXED[2])
                self.refused(InvalidPaper, {"word": "word", "at": at}, lets_program, thing)
        for at in range(len(MIXED[0])):
            for wrong in (None, (), [], list(MIXED[0][at]), MIXED[0][at] + (0,)):
                thing = (with_changed(MIXED[0], at, wrong), MIXED[1], MIXED[2])
                self.refused(InvalidPaper, {"word": "cell", "at": at}, lets_program, thing)
