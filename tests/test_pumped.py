"""[7], [28]: pumped runs."""

from enoughcharge.errors import InvalidPaper, NotUsable
from enoughcharge.pumped import lets_pumped, pumped_out
from enoughcharge.runs import is_run, lets_run, wakings_of, width_of
from tests.model import random_runs
from tests.samples import ANYTHING, COUNT, LATE, LOOP, NEITHER, NOTHING, SIXTY, TWICE, Checks

STEP = ((),)
# A loop that a counted step leads into, with a step behind it that is taken or not.
TURN = (
    (("k", "kept", 1, 0), ("q", "quick", 1, 0)),
    (("off", 9), ("set", "q", 1, 2), ("ask", "k", 3), ("unless", ("equal", "k", 0), 5, 4), ("jump", 2, 5), ("end",)),
    ("k",),
)
AHEAD = ((), ())
ROUND = ((0,), (), ())
PUMPED = ((AHEAD, ROUND, ()), (AHEAD, ROUND * 2, ((1,),)), ((),))


class PumpedChecks(Checks):
    def not_usable(self, word, *given, **named):
        self.refused(NotUsable, {"word": word, "at": -1}, pumped_out, *given, **named)

    def invalid(self, word, at, program, thing):
        self.refused(InvalidPaper, {"word": word, "at": at}, lets_pumped, program, thing)
        self.refused(InvalidPaper, {"word": word, "at": at}, lets_pumped, program=program, thing=thing)
        self.not_usable("thing", program, thing, 1)
        self.not_usable("thing", program, thing, None)


class LetsPumpedTest(PumpedChecks):
    def test_falls(self):
        for program, thing, many in (
            (LOOP, (((), STEP, ()), ()), 1), (LOOP, ((),), 0), (LOOP, (STEP * 3,), 0), (NOTHING, ((),), 0), (COUNT, (STEP * 7,), 0),
            (LOOP, ((STEP, STEP, STEP), ((), STEP * 4, ()), (STEP * 2, STEP, ()), STEP), 3), (TURN, PUMPED, 2), (TURN, PUMPED[:1] + ((),), 1),
        ):
            self.same(lets_pumped(program, thing), many)
            self.same(lets_pumped(program=program, thing=thing), many)

    def test_shape(self):
        for thing in (None, 0, True, "", "abc", (), [], [()], (None,), ([],), (0, ()), ((), ()), (((), STEP), ()), (((), STEP, (), ()), ()),
                      ([(), STEP, ()], ()), (([], STEP, ()), ()), (((), [()], ()), ()), (((), STEP, []), ()), (((), STEP, None), ()),
                      (((), STEP, ()), []), (((), STEP, ()), None), (((), STEP, ()), (), ()), ("abc", ()), (((), STEP, ()), "")):
            self.invalid("shape", -1, LOOP, thing)

    def test_steps_are_counted_through(self):
        wrong = (0,)
        for at, triple in (
            (0, ((wrong,), ROUND, ())), (1, (((), wrong), ROUND, ())), (2, (AHEAD, ((), (), ()), ())), (3, (AHEAD, ((0,), wrong, ()), ())),
            (4, (AHEAD, ((0,), (), wrong), ())), (5, (AHEAD, ROUND, ((),))), (6, (AHEAD, ROUND, ((0,), wrong))), (2, (AHEAD, ((2,),), ())),
        ):
            self.invalid("step", (0, at), TURN, (triple, ()))
            self.invalid("step", (1, at), TURN, (PUMPED[0], triple, (wrong,)))
        for at in range(4):
            for step in NEITHER + (0, (True,), (0, 0), ((),)):
                self.invalid("step", (0, at), LOOP, ((STEP * at, (step,), ()), ()))
                self.invalid("step", (0, at + 2), LOOP, ((STEP, STEP * (at + 1), (step,)), ()))
                self.invalid("step", (1, at), LOOP, (((), STEP, ()), STEP * at + (step,)))

    def test_the_last_element(self):
        self.invalid("step", (0, 0), LOOP, ((0,),))
        self.invalid("step", (0, 1), LOOP, (((), STEP, ()),))
        self.invalid("step", (2, 1), TURN, PUMPED[:2] + (((), (0,)),))
        self.invalid("step", (0, 7), COUNT, (STEP * 8,))

    def test_rounds(self):
        self.invalid("round", 0, LOOP, (((), (), ()), ()))
        self.invalid("round", 0, LOOP, ((STEP, (), STEP), ()))
        self.invalid("round", 1, LOOP, (((), STEP, ()), ((), (), ()), ()))
        self.invalid("round", 0, COUNT, (((), STEP * 3, ()), ()))
        self.invalid("round", 0, TURN, ((AHEAD, ((0,),), ()), ()))
        self.invalid("round", 0, TURN, ((AHEAD[:1], ((),), ()), ()))
        self.invalid("round", 1, TURN, (PUMPED[0], (AHEAD, ((0,), ()), ((),)), ()))
        self.invalid("round", 0, TURN, ((AHEAD, ((1,), ()), ()), ()))

    def test_a_round_that_leads_back_only_in_place(self):
        program = ((("n", "kept", 3, 0),), (("set", "n", ("plus", "n", 1), 1), ("jump", 0, 1)), ())
        for many in range(1, 4):
            self.invalid("round", 0, program, (((), STEP * 2 * many, ()), ()))
        self.same(lets_pumped(program, (((), STEP * 8, ()), ())), 1)
        program = (program[0], program[1][:1] + (("mark", 1), ("jump", 0, 1)), ())
        self.invalid("round", 0, program, (((), STEP * 12, ()), ()))
        self.same(lets_pumped(program, ((STEP * 2, STEP * 12, ()), ())), 1)

    def test_what_the_last_step_ahead_of_a_fall_has_kept(self):
        code = (("unless", ("equal", "k", 0), 3, 1), ("ask", "k", 1), ("jump", 0, 1), ("jump", 3, 1))
        program = ((("k", "kept", 1, 0),), code, ())
        first = ((), ((), (0,), ()), ((), (1,)))
        self.same(lets_pumped(program, (first, (STEP, STEP, ()), ())), 2)
        self.same(lets_pumped(program, (first, STEP * 5)), 1)
        self.invalid("step", (1, 1), program, (first, (STEP, ((0,),), ()), ()))
        self.invalid("step", (1, 1), program, (first, ((), (0,), ())))

    def test_falls_where_no_cost_is_due(self):
        self.invalid("fall", 0, TURN, ((AHEAD, ROUND, ((1,), ())), ()))
        self.invalid("fall", 1, TURN, (PUMPED[0], (AHEAD, ROUND, ((1,), ())), ((),)))
        program = ((), (("jump", 1, 2), ("jump", 2, 2), ("unless", ("equal", 1, 2), 0, 1), ("off", 1), ("end",)), ())
        self.same(lets_pumped(program, (((), STEP * 3, ()), ())), 1)

    def test_the_first_fault_counts(self):
        self.invalid("step", (0, 1), LOOP, ((STEP, (), (0,)), ()))
        self.invalid("round", 0, TURN, ((AHEAD, (), ((1,), ())), ((0,),)))
        self.invalid("round", 0, LOOP, (((), (), ()), (0,)))
        self.invalid("fall", 0, TURN, ((AHEAD, ROUND, ((1,), ())), ((0,), (), ()), (0,)))
        self.invalid("shape", -1, LOOP, (((0,), (), ()), None))
        self.invalid("step", (0, 0), LOOP, (((0,), (), ()), ((), (), ()), (0,)))

    def test_any_value(self):
        for thing in ANYTHING:
            if thing != ((),):
                self.assertRaises(InvalidPaper, lets_pumped, TURN, thing)
        self.same(lets_pumped(TURN, ((),)), 0)


class PumpedOutTest(PumpedChecks):
    def test_rounds_any_number_of_times(self):
        for many in (0, 1, 2, 5, 30):
            stretches = (AHEAD + ROUND * many, AHEAD + ROUND * 2 * many + ((1,),), ((),))
            self.same(pumped_out(TURN, PUMPED, many), stretches)
            self.same(pumped_out(program=TURN, thing=PUMPED, many=many), stretches)
            self.same(lets_run(TURN, stretches), 2)
            self.same(pumped_out(LOOP, (((), STEP, ()), STEP), many), (STEP * many, STEP))
            self.same(pumped_out(COUNT, (STEP * 7,), many), (STEP * 7,))

    def test_what_is_no_number(self):
        for many in NEITHER + ("1", (1,), -SIXTY, "n"):
            self.not_usable("many", TURN, PUMPED, many)
            self.not_usable("many", LOOP, ((),), many)
            self.not_usable("thing", LOOP, (), many)

    def test_consequences(self):
        for thing in (PUMPED, PUMPED[:1] + (AHEAD,), PUMPED[1:]):
            first = pumped_out(TURN, thing, 0)
            for many in range(8):
                made = pumped_out(TURN, thing, many)
                self.assertTrue(is_run(TURN, made))
                self.same(lets_run(TURN, made), lets_pumped(TURN, thing))
                self.same(wakings_of(TURN, made), wakings_of(TURN, first))
                self.assertGreaterEqual(width_of(TURN, made), many)

    def test_random_rounds(self):
        found = 0
        for program, made, _, met in random_runs(7, 1500):
            moments = met["moments"]
            if len(made) == 1:
                for begin in range(len(made[0])):
                    for end in range(begin + 1, len(made[0]) + 1):
                        found += self.check_round(program, moments, made[0], begin, end)
        self.assertGreater(found, 100)

    def check_round(self, program, moments, steps, begin, end):
        due = program[1][moments[end][1]][0] not in ("end", "off")
        thing = ((steps[:begin], steps[begin:end], ()), ())
        if moments[begin] != moments[end]:
            self.invalid("round", 0, program, thing)
        elif not due:
            self.invalid("fall", 0, program, thing)
        else:
            self.same(lets_pumped(program, thing), 1)
            self.assertGreaterEqual(width_of(program, pumped_out(program, thing, 9)), 9)
        return moments[begin] == moments[end] and due
